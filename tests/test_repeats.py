"""Point 7 for repeats: far rows that are alike, what they let, and when repeats are settled."""

import unittest
from copy import deepcopy
from random import Random

from pickdepths.alike import are_alike
from pickdepths.asking import lets
from pickdepths.errors import InvalidBlocks, InvalidNumber
from pickdepths.questions import depth_of
from pickdepths.repeats import far_alike, far_lets, settled
from tests import reference
from tests.checking import BAD_ROWS, CheckingCase
from tests.reference import (
    ANY, ONE_A, TWO, at_least, count_parts, drawn_question, drawn_row, none_of, nots, short_rows, some,
    written_out)

MANY = 10 ** 30
ALPHABET = [
    ([("abcd", MANY), ("efgh", MANY), ("ijkl", MANY)], MANY),
    ([("mnop", MANY), ("qrst", MANY), ("uvwx", MANY)], MANY),
    ([("yzab", MANY), ("cdef", MANY), ("ghij", MANY)], MANY),
]
NO_QUESTIONS = (None, 0, "any", [], (), ["any"], ("any", ANY), ("some", "a"), ("not", None),
                some(ANY, "A", ANY), ("both", ONE_A, ["any"]))


def drawn_blocks(drawn, letters, most_times, lists=2):
    """Blocks that are at most so many lists deep, drawn."""
    blocks = []
    for _ in range(drawn.randint(0, 3)):
        part = drawn_row(drawn, letters, 4 if lists == 2 else 2)
        if lists > 1 and drawn.random() < 0.5:
            part = drawn_blocks(drawn, letters, most_times, lists - 1)
        blocks.append((part, drawn.randint(0, most_times)))
    return blocks


def few_times():
    drawn = Random(21)
    told = [drawn_blocks(drawn, letters, 3) for letters in ("a", "ab", "ab", "abc") for _ in range(40)]
    return [blocks for blocks in told if len(written_out(blocks)) <= 40]


def with_times(blocks, change):
    """The same blocks with changed times."""
    return [(part if isinstance(part, str) else with_times(part, change), change(times))
            for part, times in blocks]


def nested_lists(many, times=1):
    """A list of blocks in which so many lists lie within one another, itself counted."""
    blocks = [("a", times)]
    for _ in range(many - 1):
        blocks = [(blocks, times)]
    return blocks


# What is passed, and the value of the error that the document names.
TOO_DEEP = (
    (nested_lists(3), 3), (nested_lists(4), 4), (nested_lists(9), 9), (nested_lists(30), 30),
    ([("a", 1), ("b", 1), (nested_lists(2), 1)], 3),
    ([(nested_lists(2), 1), ("a", 1), ("b", 1)], 3),
    ([("a", 1), (nested_lists(3), 1), (nested_lists(2), 1)], 4),
    ([(nested_lists(2), 1), ("", 0), (nested_lists(5), 1)], 6),
    ([([("a", 1), ([], 1)], 1)], 3), ([([([], 0)], 0)], 3), ([([], 0), ([([], 0), ("a", 0)], 0)], 3),
    # Wrong times count for nothing where lists lie too deep.
    (nested_lists(3, -1), 3), ([("a", -1), (nested_lists(4, -7), -2)], 5),
)
NEGATIVE = (
    ([("a", -1)], -1), ([("", -5)], -5), ([("a", 1), ("b", -2)], -2), ([("a", -3), ("b", -2)], -3),
    ([("a", 0), ("b", 1), ("c", -100)], -100), ([([("a", -4)], 1)], -4), ([([("a", -4)], -6)], -6),
    ([([("a", 1), ("b", -7)], 2), ("c", -8)], -7), ([([], -9), ([("a", -1)], 1)], -9),
    ([([("a", 1)], 1), ([("b", -2), ("c", -3)], 0), ("d", -4)], -2),
    ([([("a", 1)], 1), ([("b", -2), ("c", -3)], -5), ("d", -4)], -5),
    ([("a", 0), ([("b", 0), ("c", 0), ("d", -1)], 0)], -1), ([("a", -1), ([("b", -2)], -3)], -1),
    ([([("a", 1)], 2), ([], -3)], -3), ([("a", 1), ("b", -10 ** 30)], -10 ** 30),
)


class FarAlikeTest(CheckingCase):

    def assert_like_written_out(self, blocks, other, depth):
        self.assertIs(far_alike(blocks, other, depth),
                      are_alike(written_out(blocks), written_out(other), depth),
                      (blocks, other, depth))

    def test_examples_of_the_document(self):
        self.assertEqual(
            [far_alike([("ab", 10 ** 30)], [("ab", 10 ** 29)], 3), far_alike([("a", 6)], [("a", 7)], 3),
             far_alike([("a", 7)], [("a", 8)], 3)],
            [True, False, True])

    def test_few_times(self):
        told = few_times()
        self.assertGreater(len(told), 100)
        for at, blocks in enumerate(told):
            for other in told[at::7]:
                for depth in range(4):
                    self.assert_like_written_out(blocks, other, depth)

    def test_few_times_by_the_words_of_point_6(self):
        rows = [([("ab", 2)], "abab"), ([("a", 1), ("ba", 2)], "ababa"), ([([("a", 2), ("b", 1)], 2)], "aabaab")]
        for blocks, row in rows:
            self.assertEqual(written_out(blocks), row)
            for other, other_row in rows:
                for depth in range(4):
                    self.assertIs(
                        far_alike(blocks, other, depth), reference.alike(row, other_row, depth))

    def test_times_within_times_are_not_mixed_up(self):
        blocks = [([("a", 2), ("b", 1)], 3)]
        for other, told in (([("aab", 3)], True), ([("aab", 2)], False), ([("aa", 3), ("b", 3)], False),
                            ([([("aa", 1), ("b", 1)], 3)], True), ([("ab", 3)], False),
                            ([([("a", 1), ("b", 2)], 3)], False), ([("baa", 3)], False)):
            self.assertIs(far_alike(blocks, other, 3), told)
            self.assertIs(far_alike(other, blocks, 3), told)

    def test_blocks_one_behind_the_other(self):
        self.assertIs(far_alike([("a", MANY), ("b", MANY)], [("b", MANY), ("a", MANY)], 1), True)
        self.assertIs(far_alike([("a", MANY), ("b", MANY)], [("b", MANY), ("a", MANY)], 2), False)
        self.assertIs(far_alike([("a", 1), ("b", 1), ("c", 1)], [("abc", 1)], 3), True)
        self.assertIs(far_alike([("c", 1), ("b", 1), ("a", 1)], [("abc", 1)], 2), False)

    def test_the_empty_row(self):
        empty = ([], [("", 1)], [("a", 0)], [("", MANY)], [([], 1)], [([], MANY)], [([("a", 0)], MANY)],
                 [([("a", MANY)], 0)], [("abcd", 0), ("", 7), ([("", 2), ("b", 0)], 3)], [([("", 5)], 5)])
        for depth in range(4):
            for blocks in empty:
                for other in empty:
                    self.assertIs(far_alike(blocks, other, depth), True)
                self.assertIs(far_alike(blocks, [("a", 1)], depth), depth == 0)
                self.assertIs(far_alike([("a", MANY)], blocks, depth), depth == 0)

    def test_blocks_of_no_times_and_of_the_empty_row_change_nothing(self):
        for blocks in ([("ab", MANY)], [("a", 3), ("b", 2)], [([("a", 2), ("b", 1)], MANY)]):
            for nothing in (("c", 0), ("", MANY), ([], MANY), ([("c", 0)], MANY), ([("c", MANY)], 0)):
                self.assertIs(far_alike(blocks, [nothing] + blocks, 3), True)
                self.assertIs(far_alike(blocks + [nothing], blocks, 3), True)

    def test_a_row_told_as_one_block_or_as_two(self):
        for times in (0, 1, 5, 7, 8, 100, MANY):
            for one, two in (
                    ([("abab", times)], [("abab", times), ("", 1)]),
                    ([([("a", 2), ("b", 1)], times)], [("aab", times)]),
                    ([("ab", times + 3)], [("ab", times), ("ab", 3)]),
                    ([("ab", 2 * times)], [("ab", times), ("ab", times)]),
                    ([("ab", 2 * times)], [("abab", times)]),
                    ([("a", times + 1), ("b", 1)], [("a", times), ("ab", 1)]),
                    ([("a", 1), ("ba", times)], [("ab", times), ("a", 1)]),
                    ([([("ab", 3)], times)], [("ab", 3 * times)]),
                    ([([("a", times)], 1), ("b", times)], [([("a", times), ("b", times)], 1)])):
                for depth in range(4):
                    self.assertIs(far_alike(one, two, depth), True, (one, two))
                    self.assertIs(far_alike(two, one, depth), True)

    def test_one_more_time_matters_if_there_are_few(self):
        for part in ("a", "ab", "abc", "dcba"):
            for depth in range(4):
                least = 2 ** depth - 1
                for times in list(range(least + 3)) + [100, MANY - 1, MANY]:
                    for more in (1, 2, MANY):
                        one, two = [(part, times)], [(part, times + more)]
                        self.assertIs(far_alike(one, two, depth), times >= least, (one, two, depth))
                        one, two = [(one, 1)], [(two, 1)]
                        self.assertIs(far_alike(one, two, depth), times >= least)

    def test_times_of_blocks_within_blocks(self):
        for depth, numbers in ((1, (0, 1, 2)), (2, (0, 1, 2, 3, 4)), (3, (1, 3, 5, 6, 7, 8))):
            told = []
            for outer in numbers:
                for inner in numbers:
                    # The greatest number is told as a far greater one.
                    far = [MANY if times == numbers[-1] else times for times in (inner, outer)]
                    kind = reference.kind(("a" * inner + "b") * outer, depth)
                    told.append((kind, [([("a", far[0]), ("b", 1)], far[1])]))
            for kind, blocks in told:
                for other_kind, other in told[::2]:
                    self.assertIs(far_alike(blocks, other, depth), kind == other_kind)

    def test_each_number_of_times_matters(self):
        parts = [("ab", "cd", "ef"), ("gh", "ij", "kl"), ("mn", "op", "qr")]
        for at in range(3):
            for inner_at in range(3):
                for times in (6, 7, 8):
                    blocks = [([(part, MANY) for part in three], 1) for three in parts]
                    changed = deepcopy(blocks)
                    changed[at][0][inner_at] = (parts[at][inner_at], times)
                    self.assertIs(far_alike(blocks, changed, 3), times >= 7)
                    self.assertIs(far_alike(blocks, changed, 2), True)
            for times in (6, 7, 8):
                blocks = [([(part, 1) for part in three], MANY) for three in parts]
                changed = deepcopy(blocks)
                changed[at] = (changed[at][0], times)
                self.assertIs(far_alike(blocks, changed, 3), times >= 7)
                self.assertIs(far_alike(blocks, changed, 2), True)

    def test_unlike_rows_of_great_times(self):
        blocks = [("ab", MANY)]
        for other, depth in (([("ba", MANY)], 2), ([("abb", MANY)], 2), ([("ab", MANY), ("b", 1)], 2),
                             ([("ab", MANY), ("a", 1)], 2), ([("abc", MANY)], 1),
                             ([("ab", MANY), ("bb", 1), ("ab", MANY)], 3), ([("a", MANY)], 1),
                             ([("ab", MANY), ("c", 1), ("ab", MANY)], 1)):
            self.assertIs(far_alike(blocks, other, depth), False)
            self.assertIs(far_alike(other, blocks, depth), False)
            self.assertIs(far_alike(blocks, other, depth - 1), True)
            self.assertIs(far_alike(other, blocks, depth - 1), True)

    def test_great_times_against_least_ones(self):
        for blocks in few_times()[::3]:
            for depth in range(4):
                least = 2 ** depth - 1
                great = with_times(blocks, lambda times: times * MANY)
                small = with_times(blocks, lambda times: min(times, 1) * least)
                self.assertIs(far_alike(great, small, depth), True)
                self.assertIs(far_alike(with_times(blocks, lambda times: times), blocks, depth), True)

    def test_depth_0(self):
        for one in ([], [("a", MANY)], ALPHABET):
            for two in ([], [("b", 1)], ALPHABET[:1]):
                self.assertIs(far_alike(one, two, 0), True)

    def test_the_bounds(self):
        self.assertIs(far_alike(ALPHABET, deepcopy(ALPHABET), 3), True)
        self.assertIs(far_alike(ALPHABET, ALPHABET[::-1], 3), False)
        one = [([("aaaa", MANY)] * 3, MANY)] * 3
        self.assertIs(far_alike(one, [("a", MANY)], 3), True)
        two = [([("aaaa", MANY), ("aaba", MANY), ("aaaa", MANY)], MANY)] * 3
        self.assertIs(far_alike(two, two[:1], 3), True)
        self.assertIs(far_alike(two, one, 3), False)

    def test_the_blocks_stay_as_they_were(self):
        for blocks in few_times()[::5] + [ALPHABET]:
            kept = deepcopy(blocks)
            far_alike(blocks, blocks, 3)
            far_alike(blocks, [], 2)
            far_lets(blocks, TWO)
            self.assertEqual(blocks, kept)

    def test_arguments_by_name(self):
        self.assertIs(far_alike(depth=2, other_blocks=[("ba", 1)], blocks=[("ab", 1)]), False)
        self.assertIs(far_alike([("ab", 1)], depth=1, other_blocks=[("ba", 1)]), True)

    def test_lists_too_deep(self):
        for blocks, value in TOO_DEEP:
            with self.subTest(blocks=blocks):
                self.assert_raises_exactly(InvalidBlocks, value, far_alike, blocks, [("a", 1)], 2)
                self.assert_raises_exactly(InvalidBlocks, value, far_alike, [("a", 1)], blocks, 2)
                self.assert_raises_exactly(InvalidBlocks, value, far_alike, [], blocks, -1)
        self.assert_raises_exactly(
            InvalidBlocks, 3, far_alike, nested_lists(3), nested_lists(4), -1)

    def test_negative_times(self):
        for blocks, value in NEGATIVE:
            with self.subTest(blocks=blocks):
                self.assert_raises_exactly(InvalidNumber, value, far_alike, blocks, [("a", 1)], 2)
                self.assert_raises_exactly(InvalidNumber, value, far_alike, [("a", 1)], blocks, 2)
                self.assert_raises_exactly(InvalidNumber, value, far_alike, [], blocks, -3)
        self.assert_raises_exactly(InvalidNumber, -1, far_alike, [("a", -1)], [("a", -2)], -3)

    def test_the_first_row_comes_first(self):
        self.assert_raises_exactly(InvalidNumber, -1, far_alike, [("a", -1)], nested_lists(3), -3)
        self.assert_raises_exactly(InvalidBlocks, 3, far_alike, nested_lists(3), [("a", -1)], -3)

    def test_negative_depths(self):
        for depth in (-1, -2, -100):
            self.assert_raises_exactly(InvalidNumber, depth, far_alike, [], [], depth)
            self.assert_raises_exactly(InvalidNumber, depth, far_alike, ALPHABET, [("a", 0)], depth)

    def test_right_ones_raise_nothing(self):
        for blocks in ([], [("", 0)], nested_lists(1), nested_lists(2), [([], 0), ([], 0), ([], 0)],
                       nested_lists(2, 0), nested_lists(2, MANY)):
            self.assertIs(far_alike(blocks, blocks, 0), True)
            self.assertIs(far_lets(blocks, ANY), True)


class FarLetsTest(CheckingCase):

    def drawn_questions(self):
        drawn = Random(31)
        told = [drawn_question(drawn, "abc", 3, drawn.randint(4, 40)) for _ in range(60)]
        return told + [TWO, at_least(7, "a"), at_least(6, "b"), none_of("abc"), nots(5, TWO)]

    def test_examples_of_the_document(self):
        two = some(some(ANY, "c", ANY), "c", ANY)
        self.assertEqual(
            [far_lets([([("ab", 5), ("c", 1)], 10 ** 30)], two),
             far_lets([("ab", 10 ** 30), ("c", 1)], two)],
            [True, False])

    def test_few_times(self):
        told = few_times()
        for question in self.drawn_questions():
            for blocks in told[::3]:
                self.assertIs(far_lets(blocks, question), lets(written_out(blocks), question))

    def test_few_times_by_the_words_of_point_5(self):
        told = [blocks for blocks in few_times() if len(written_out(blocks)) <= 9]
        self.assertGreater(len(told), 40)
        for question in self.drawn_questions()[::2]:
            for blocks in told[::2]:
                self.assertIs(far_lets(blocks, question),
                              reference.lets(written_out(blocks), question), (blocks, question))

    def test_great_times_against_least_ones(self):
        for question in self.drawn_questions():
            least = 2 ** depth_of(question) - 1
            for part in ("a", "ab", "abca"):
                self.assertIs(far_lets([(part, MANY)], question), lets(part * least, question))
                self.assertIs(far_lets([(part, MANY), ("b", 2), (part, least)], question),
                              lets(part * least + "bb" + part * least, question))
                self.assertIs(far_lets([([(part, 2), ("c", 1)], MANY)], question),
                              lets((part * 2 + "c") * least, question))

    def test_so_many_of_a_letter_or_more(self):
        for many in range(8):
            question = at_least(many, "a")
            for times in list(range(10)) + [MANY]:
                self.assertIs(far_lets([("ba", times)], question), times >= many)
                self.assertIs(far_lets([("b", MANY), ([("a", 1), ("b", MANY)], times)], question),
                              times >= many)

    def test_a_first_and_a_last_letter(self):
        nothing = none_of("abc")
        blocks = [("ab", MANY), ([("c", MANY), ("ac", 1)], MANY)]
        for letter in "abc":
            self.assertIs(far_lets(blocks, some(nothing, letter, ANY)), letter == "a")
            self.assertIs(far_lets(blocks, some(ANY, letter, nothing)), letter == "c")

    def test_letters_side_by_side(self):
        nothing = none_of("abc")
        blocks = [("ab", MANY), ([("c", MANY), ("ac", 1)], MANY)]
        for pair in ("ab", "ba", "bc", "cc", "ca", "ac", "aa", "bb", "cb"):
            question = some(ANY, pair[0], some(nothing, pair[1], ANY))
            self.assertIs(far_lets(blocks, question), pair in ("ab", "ba", "bc", "cc", "ca", "ac"))

    def test_the_empty_row(self):
        for blocks in ([], [("a", 0)], [("", MANY)], [([("a", 0)], MANY)], [([], 3)]):
            self.assertIs(far_lets(blocks, ANY), True)
            self.assertIs(far_lets(blocks, ONE_A), False)
            self.assertIs(far_lets(blocks, ("not", TWO)), True)
            self.assertIs(far_lets(blocks, none_of("abc")), True)

    def test_depth_0(self):
        for blocks in ([], [("a", MANY)], ALPHABET):
            self.assertIs(far_lets(blocks, ANY), True)
            self.assertIs(far_lets(blocks, nots(3)), False)
            self.assertIs(far_lets(blocks, ("both", ANY, nots(2))), True)
            self.assertIs(far_lets(blocks, ("both", ANY, nots(1))), False)

    def test_the_bounds(self):
        drawn = Random(33)
        question = none = ANY
        while count_parts(question) < 180:
            middle = some(some(ANY, drawn.choice("abcdef"), ANY), drawn.choice("abcdef"), ANY)
            question = ("both", question, some(middle, drawn.choice("abcdef"), ANY))
        self.assertEqual(depth_of(question), 3)
        self.assertIs(far_lets(ALPHABET, question), True)
        self.assertIs(far_lets(ALPHABET[:1], question), True)
        self.assertIs(far_lets(ALPHABET[1:2], question), False)
        none = ("both", question, some(some(some(ANY, "y", ANY), "m", ANY), "a", ANY))
        self.assertIs(far_lets(ALPHABET, none), False)
        self.assertIs(far_lets(ALPHABET * 2, none), True)
        self.assertIs(far_lets(ALPHABET, nots(196, ONE_A)), True)

    def test_arguments_by_name(self):
        self.assertIs(far_lets(question=TWO, blocks=[("a", 2)]), True)
        self.assertIs(far_lets([("a", 1)], question=TWO), False)

    def test_errors_of_blocks(self):
        for question in (ANY, TWO, None):
            for blocks, value in TOO_DEEP:
                self.assert_raises_exactly(InvalidBlocks, value, far_lets, blocks, question)
            for blocks, value in NEGATIVE:
                self.assert_raises_exactly(InvalidNumber, value, far_lets, blocks, question)

    def test_errors_of_questions(self):
        for wrong in NO_QUESTIONS:
            self.assert_no_question(wrong, far_lets, [("a", 1)], wrong)
            self.assert_no_question(wrong, far_lets, question=wrong, blocks=[])


class SettledTest(CheckingCase):

    def test_examples_of_the_document(self):
        self.assertEqual(
            [settled("ab", 2), settled("a", 3), settled("", 3), settled("ab", 0)], [3, 7, 0, 0])

    def test_the_least_number_of_times(self):
        drawn = Random(41)
        rows = short_rows("ab", 4) + [drawn_row(drawn, "abc", 6) for _ in range(20)]
        for row in rows + ["aaaaaa", "ababab", "abcabc", "abcdef", "aabbaa"]:
            for depth in range(4):
                told = settled(row, depth)
                self.assertIs(type(told), int)
                self.assertLessEqual(told, 2 ** depth - 1)
                for times in range(told, 2 ** depth + 2):
                    self.assertIs(are_alike(row * told, row * times, depth), True)
                if told > 0:
                    self.assertIs(are_alike(row * (told - 1), row * told, depth), False)

    def test_short_rows_by_the_words_of_point_6(self):
        for row in short_rows("ab", 3):
            for depth in range(3):
                kinds = [reference.kind(row * times, depth) for times in range(2 ** depth + 1)]
                self.assertEqual(settled(row, depth), kinds.index(kinds[-1]))

    def test_known_numbers(self):
        for row, told in (("", [0, 0, 0, 0]), ("a", [0, 1, 3, 7]), ("z", [0, 1, 3, 7]),
                          ("aa", [0, 1, 2, 4]), ("aaa", [0, 1, 1, 3]), ("aaaaaa", [0, 1, 1, 2]),
                          ("ab", [0, 1, 3, 7]), ("abcdef", [0, 1, 3, 7])):
            self.assertEqual([settled(row, depth) for depth in range(4)], told, row)

    def test_arguments_by_name(self):
        self.assertEqual(settled(depth=2, row="ab"), 3)
        self.assertEqual(settled("a", depth=3), 7)

    def test_errors(self):
        for bad, index in BAD_ROWS:
            self.assert_checks_row(settled, bad, index, 2)
            self.assert_checks_row(settled, bad, index, 0)
            self.assert_checks_row(settled, bad, index, -1)
        for depth in (-1, -2, -100):
            self.assert_raises_exactly(InvalidNumber, depth, settled, "ab", depth)
            self.assert_raises_exactly(InvalidNumber, depth, settled, depth=depth, row="")


if __name__ == "__main__":
    unittest.main()

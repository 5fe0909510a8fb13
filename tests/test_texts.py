"""The texts of questions, and questions read from them."""

import re
import unittest
from itertools import product
from random import Random
from string import ascii_lowercase

from pickdepths.errors import Unreadable
from pickdepths.questions import depth_of, is_question
from pickdepths.readings import read_question
from pickdepths.texts import show_question
from tests import reference
from tests.checking import CheckingCase
from tests.reference import ANY, ONE_A, ONE_B, TWO, at_least, count_parts, drawn_question, nots, some
from tests.scoped import NO_QUESTIONS, every_other, great_questions

SIGNS = "".join(chr(code) for code in range(32, 127))


def text_by_words(question):
    """The text of a question by the document's words."""
    if question[0] == "any":
        return "*"
    if question[0] == "not":
        return "!" + text_by_words(question[1])
    if question[0] == "both":
        return "(" + text_by_words(question[1]) + " & " + text_by_words(question[2]) + ")"
    return "[" + text_by_words(question[1]) + " " + question[2] + " " + text_by_words(question[3]) + "]"


def is_text(text):
    """Whether some question has a text: then and only then its innermost questions shrink to one sign."""
    shorter = re.sub(r"!\*|\(\* & \*\)|\[\* [a-z] \*\]", "*", text)
    while shorter != text:
        text, shorter = shorter, re.sub(r"!\*|\(\* & \*\)|\[\* [a-z] \*\]", "*", shorter)
    return text == "*"


def drawn_questions(many=200):
    drawn = Random(121)
    return [drawn_question(drawn, ascii_lowercase, drawn.randint(0, 6), drawn.randint(1, 80))
            for _ in range(many)] + reference.nested_questions()[::5]


def texts_up_to(length):
    """All texts of questions with at most so many signs and the letter a, as a dict with the questions."""
    found = {"*": ANY}
    while True:
        more = {}
        for text, question in found.items():
            more["!" + text] = ("not", question)
            for other, second in found.items():
                more["(" + text + " & " + other + ")"] = ("both", question, second)
                more["[" + text + " a " + other + "]"] = some(question, "a", second)
        more = {text: more[text] for text in more if len(text) <= length and text not in found}
        if not more:
            return found
        found.update(more)


class ExamplesTest(unittest.TestCase):

    def test_examples_of_the_document(self):
        self.assertEqual(
            [show_question(TWO), show_question(("not", ("both", ANY, TWO))), read_question("[* b !*]"),
             read_question("[[* a *] a *]") == TWO],
            ["[[* a *] a *]", "!(* & [[* a *] a *])", ("some", ANY, "b", ("not", ANY)), True])


class ShowQuestionTest(CheckingCase):

    def test_each_kind(self):
        for question, text in (
                (ANY, "*"), (("not", ANY), "!*"), (("both", ANY, ANY), "(* & *)"), (ONE_B, "[* b *]"),
                (("not", ONE_A), "![* a *]"), (nots(3), "!!!*"), (("both", ONE_A, ("not", ANY)), "([* a *] & !*)"),
                (("both", ("both", ANY, ONE_A), ONE_B), "((* & [* a *]) & [* b *])"),
                (("both", ANY, ("both", ONE_A, ONE_B)), "(* & ([* a *] & [* b *]))"),
                (some(ONE_A, "z", ANY), "[[* a *] z *]"), (some(ANY, "z", ONE_A), "[* z [* a *]]"),
                (some(("not", ANY), "m", ("both", ANY, ANY)), "[!* m (* & *)]")):
            self.assertEqual(show_question(question), text)
            self.assertEqual(read_question(text), question)

    def test_every_letter(self):
        for letter in ascii_lowercase:
            self.assertEqual(show_question(some(ANY, letter, ANY)), "[* " + letter + " *]")

    def test_by_the_words_of_the_document(self):
        for question in drawn_questions():
            told = show_question(question)
            self.assertIs(type(told), str)
            self.assertEqual(told, text_by_words(question))

    def test_unlike_questions_have_unlike_texts(self):
        questions = set(drawn_questions())
        self.assertEqual(len({show_question(question) for question in questions}), len(questions))

    def test_two_hundred_parts(self):
        self.assertEqual(show_question(nots(199)), "!" * 199 + "*")
        left = right = ANY
        for _ in range(66):
            left, right = some(left, "a", ANY), ("both", ANY, right)
        self.assertEqual(show_question(left), "[" * 66 + "*" + " a *]" * 66)
        self.assertEqual(show_question(right), "(* & " * 66 + "*" + ")" * 66)

    def test_arguments_by_name(self):
        self.assertEqual(show_question(question=TWO), "[[* a *] a *]")

    def test_wrong_questions(self):
        for wrong in NO_QUESTIONS + ("*", "[* a *]", object(), ("not", ("not", "*"))):
            self.assert_no_question(wrong, show_question, wrong)
            self.assert_no_question(wrong, show_question, question=wrong)


class ReadQuestionTest(CheckingCase):

    def assert_unreadable(self, text):
        self.assert_raises_exactly(Unreadable, text, read_question, text)

    def test_it_comes_back_to_the_question(self):
        for question in drawn_questions():
            told = read_question(show_question(question))
            self.assertEqual(told, question)
            self.assertIs(is_question(told), True)

    def test_questions_of_nearly_two_hundred_parts(self):
        for question in [every_other(12), nots(199), nots(100, at_least(40, "q"))] + [
                question for many in range(1, 5) for question in great_questions(many)]:
            self.assertGreater(count_parts(question), 100)
            self.assertEqual(read_question(show_question(question)), question)

    def test_thirty_deep_and_four_thousand_signs(self):
        for begin, end in (("!", ""), ("[", " a *]"), ("(", " & *)")):
            text = begin * 30 + "*" + end * 30
            told = read_question(text)
            self.assertEqual(show_question(told), text)
            self.assertEqual(depth_of(told), 30 if begin == "[" else 0)
        wide = "[* a *]"
        while len(wide) < 2000:
            wide = "(!" + wide + " & [" + wide + " x *])" if len(wide) % 3 else "(" + wide + " & " + wide + ")"
        self.assertIn(len(wide), range(2000, 4001))
        self.assertEqual(show_question(read_question(wide)), wide)
        for wrong in (wide[:-1], wide[1:], wide + ")", wide[:2000] + wide[2001:], wide + " ", "!" * 4000,
                      "[" * 4000, "(" * 30, "* " * 2000, " " * 4000, ")" * 4000, "a" * 4000):
            self.assert_unreadable(wrong)

    def test_exactly_the_texts_of_questions_among_all_short_ones(self):
        right = texts_up_to(7)
        for length in range(6):
            for signs in product("*!([)] &ab", repeat=length):
                text = "".join(signs)
                if text in right:
                    self.assertEqual(read_question(text), right[text])
                else:
                    self.assert_unreadable(text)

    def test_exactly_the_texts_of_questions(self):
        right = texts_up_to(13)
        self.assertGreater(len(right), 50)
        for text, question in right.items():
            self.assertEqual(read_question(text), question)
            self.assertEqual(show_question(question), text)

    def test_a_sign_left_out_put_in_or_exchanged(self):
        for text in ("*", "!*", "[* a *]", "(* & *)", "!([* b !*] & [[* a *] z (* & *)])"):
            for at in range(len(text) + 1):
                self.assert_read_as_shown(text[:at] + text[at + 1:])
                for sign in SIGNS:
                    self.assert_read_as_shown(text[:at] + sign + text[at:])
                    self.assert_read_as_shown(text[:at] + sign + text[at + 1:])
                if 0 < at < len(text):
                    self.assert_read_as_shown(text[:at - 1] + text[at] + text[at - 1] + text[at + 1:])

    def assert_read_as_shown(self, text):
        """A text is read, as a question that has it, exactly if there is one."""
        if is_text(text):
            self.assertEqual(text_by_words(read_question(text)), text)
        else:
            self.assert_unreadable(text)

    def test_drawn_texts(self):
        drawn = Random(122)
        for question in drawn_questions():
            text = list(show_question(question))
            for _ in range(drawn.randint(1, 3)):
                at = drawn.randrange(len(text))
                text[at:at + drawn.randint(0, 2)] = drawn.choice(["", "a", " ", "*", "[", "]", "!", ") ", " &", "B"])
                text = text or ["*"]
            self.assert_read_as_shown("".join(text))

    def test_what_is_no_text(self):
        for text in ("", " ", "*" * 2, "!", "!!", "* ", " *", " !*", "!* ", "! *", "**", "*!", "*a", "a", "&", "any",
                     "[* A *]", "[* Z *]", "[* ab *]", "[*  *]", "[* *]", "[*a*]", "[* a*]", "[*a *]", "[* a * ]",
                     "[ * a *]", "[*  a *]", "[* a  *]", "[* a *", "* a *]", "[* a *)", "(* a *)", "(* a *]",
                     "[* & *]", "(*&*)", "(* &*)", "(*& *)", "(* & *", "* & *", "(*  & *)", "(* & * & *)", "(*)",
                     "()", "[]", "[* a *] ", " [* a *]", "[* a *]*", "[* a *][* a *]", "(* & *))", "((* & *)",
                     "[* a *]]", "[* { *]", "[* ` *]", "[* 1 *]", "[* * *]", "[* ! *]", "(* ! *)", "(* | *)",
                     "{* & *}", "~*", "-*", "('any',)", "not *", "[! a *]", "[* a !]", "(! & *)", "(* & !)"):
            self.assertIs(is_text(text), False)
            self.assert_unreadable(text)

    def test_kinds_of_values(self):
        told = read_question("([* a *] & !*)")
        waiting = [told]
        while waiting:
            part = waiting.pop()
            self.assertIs(type(part), tuple)
            self.assertIs(type(part[0]), str)
            waiting.extend(item for item in part[1:] if not isinstance(item, str))
        self.assertEqual(told, ("both", ONE_A, ("not", ANY)))

    def test_arguments_by_name(self):
        self.assertEqual(read_question(text="[[* a *] a *]"), TWO)
        self.assert_raises_exactly(Unreadable, "[", read_question, text="[")


if __name__ == "__main__":
    unittest.main()

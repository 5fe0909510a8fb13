"""The names, the arguments and the files that the document lists, and the README."""

import doctest
import inspect
import unittest
from pathlib import Path

from pickdepths import (
    alike, asking, counting, deciding, errors, games, questions, readings, repeats, scopes, texts)
from pickdepths.games import EagerGame, Game
from tests.reference import NAMES_OF_ERRORS

TOP = Path(__file__).resolve().parent.parent

FUNCTIONS = (
    (alike, "are_alike", ["row", "other_row", "depth"]),
    (alike, "parting_depth", ["row", "other_row"]),
    (alike, "classes", ["rows", "depth"]),
    (alike, "answers", ["row", "other_row", "depth", "place"]),
    (alike, "winning_picks", ["row", "other_row", "depth"]),
    (questions, "is_question", ["value"]),
    (questions, "depth_of", ["question"]),
    (questions, "letters_in", ["question"]),
    (questions, "turned_question", ["question"]),
    (asking, "lets", ["row", "question"]),
    (asking, "places_of", ["row", "question"]),
    (asking, "parting_question", ["row", "other_row"]),
    (repeats, "far_alike", ["blocks", "other_blocks", "depth"]),
    (repeats, "far_lets", ["blocks", "question"]),
    (repeats, "settled", ["row", "depth"]),
    (scopes, "kind_count", ["many", "depth"]),
    (scopes, "least_rows", ["many", "depth"]),
    (scopes, "least_alike", ["row", "many", "depth"]),
    (deciding, "least_row", ["question", "many"]),
    (deciding, "are_equal", ["question", "other_question", "many"]),
    (deciding, "parting_row", ["question", "other_question", "many"]),
    (deciding, "follows", ["question", "other_question", "many"]),
    (counting, "count_rows", ["question", "many", "length"]),
    (counting, "nth_row", ["question", "many", "length", "index"]),
    (counting, "row_index", ["question", "many", "row"]),
    (counting, "has_length", ["question", "many", "length"]),
    (counting, "lengths_to", ["question", "many", "most"]),
    (texts, "show_question", ["question"]),
    (readings, "read_question", ["text"]),
)

METHODS = (
    ("__init__", ["row", "other_row", "picks"]), ("pick", ["side", "place"]), ("answer", ["place"]),
    ("undo", []), ("good_answers", []), ("story", []), ("__len__", []), ("__eq__", ["other"]),
)


class InterfaceTest(unittest.TestCase):

    def test_functions(self):
        for module, name, arguments in FUNCTIONS:
            with self.subTest(name=name):
                function = getattr(module, name)
                self.assertTrue(inspect.isfunction(function))
                self.assertEqual(function.__module__, module.__name__)
                told = inspect.signature(function).parameters.values()
                self.assertEqual([part.name for part in told], arguments)
                for part in told:
                    self.assertIs(part.kind, inspect.Parameter.POSITIONAL_OR_KEYWORD)
                    self.assertIs(part.default, inspect.Parameter.empty)

    def test_classes_of_errors(self):
        for name in ("PickError",) + NAMES_OF_ERRORS:
            told = inspect.signature(getattr(errors, name)).parameters
            self.assertEqual(list(told), ["value"])

    def test_games(self):
        for name, arguments in METHODS:
            for made in (Game, EagerGame):
                told = list(inspect.signature(getattr(made, name)).parameters)
                self.assertEqual(told, ["self"] + arguments)
            # Each method stands in the class itself for which the document lists it.
            self.assertIn(name, vars(Game))
        for name in ("__init__", "pick", "answer", "undo"):
            self.assertIn(name, vars(EagerGame))
        for name in ("picks_left", "parts", "can_last"):
            self.assertIsInstance(vars(Game)[name], property)
        for made in (Game, EagerGame):
            self.assertEqual((made.__module__, made.__bases__[0]),
                             (games.__name__, object if made == Game else Game))
            game = made("ab", "ba", 1)
            for name in ("picks_left", "parts", "can_last"):
                with self.assertRaises(AttributeError):
                    setattr(game, name, 1)

    def test_examples_of_the_readme(self):
        # The fences are no part of what an example prints.
        text = (TOP / "README.md").read_text(encoding="utf-8").replace("```", "")
        examples = doctest.DocTestParser().get_doctest(text, {}, "README.md", "README.md", 0)
        told = doctest.DocTestRunner().run(examples)
        self.assertEqual(told.failed, 0)
        self.assertGreater(told.attempted, 20)


if __name__ == "__main__":
    unittest.main()

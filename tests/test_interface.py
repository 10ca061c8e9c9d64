"""The interface: which names each landed module defines, what their parameters are called, what is set on objects."""

import copy
import importlib
import inspect
import unittest

from wobblesnap.beside import shows_alike
from wobblesnap.books import Book
from wobblesnap.bounds import least_way, settled, shows_settled
from wobblesnap.coming import safest, shows_outcomes, shows_safest, shows_spread, spread
from wobblesnap.drawing import drawn, is_steady, taken
from wobblesnap.errors import DrawError
from wobblesnap.judging import shows_sure, sure
from wobblesnap.plans import Plan
from wobblesnap.telling import could, shows_could
from wobblesnap.wishes import kept

FUNCTIONS = {
    "wobblesnap.bounds": {
        "settled": ["bounds"],
        "shows_settled": ["bounds", "value"],
        "least_way": ["bounds", "one", "other"],
    },
    "wobblesnap.drawing": {
        "drawn": ["book", "plan", "hands"],
        "taken": ["book", "plan", "hands"],
        "is_steady": ["book", "plan", "hands"],
    },
    "wobblesnap.wishes": {
        "kept": ["book", "plan", "wish", "hands"],
    },
    "wobblesnap.judging": {
        "cases": ["book", "plan"],
        "sure": ["book", "plan", "wish"],
        "shows_sure": ["book", "plan", "wish", "value"],
    },
    "wobblesnap.coming": {
        "outcomes": ["book", "plan"],
        "shows_outcomes": ["book", "plan", "value"],
        "spread": ["book", "plan", "axis", "one", "other"],
        "shows_spread": ["book", "plan", "axis", "one", "other", "value"],
        "safest": ["book", "plan", "wishes"],
        "shows_safest": ["book", "plan", "wishes", "value"],
    },
    "wobblesnap.beside": {
        "alike": ["one", "other", "plan"],
        "shows_alike": ["one", "other", "plan", "value"],
    },
    "wobblesnap.telling": {
        "could": ["book", "plan", "drawing"],
        "shows_could": ["book", "plan", "drawing", "value"],
    },
}
CLASSES = {
    "wobblesnap.books": {"Book": ["text"]},
    "wobblesnap.plans": {"Plan": ["text"]},
}


def defined(module, name):
    """What the module has under this name."""
    return getattr(importlib.import_module(module), name)


class Names(unittest.TestCase):

    def test_functions_are_defined_in_their_files(self):
        for module, functions in FUNCTIONS.items():
            for name, parameters in functions.items():
                with self.subTest(module=module, name=name):
                    function = defined(module, name)
                    self.assertTrue(inspect.isfunction(function))
                    self.assertEqual((function.__module__, function.__name__), (module, name))
                    self.assertEqual(list(inspect.signature(function).parameters), parameters)

    def test_classes_are_defined_in_their_files(self):
        for module, classes in CLASSES.items():
            for name, parameters in classes.items():
                with self.subTest(module=module, name=name):
                    found = defined(module, name)
                    self.assertTrue(inspect.isclass(found))
                    self.assertEqual((found.__module__, found.__name__), (module, name))
                    self.assertEqual(list(inspect.signature(found).parameters), parameters)

    def test_the_only_argument_of_an_error(self):
        self.assertEqual(list(inspect.signature(DrawError).parameters), ["value"])

    def test_the_attributes_of_a_book_are_set_when_it_is_created(self):
        self.assertEqual(
            vars(Book("among eldest\nlevel 3")),
            {"text": "among eldest\nlevel 3", "among": "eldest", "rules": (("level", 3),)},
        )

    def test_the_attributes_of_a_plan_are_set_when_it_is_created(self):
        found = vars(Plan("hand 3\npoint a at 0 0\npoint b at 1 1\nwall a b"))
        self.assertEqual(
            {name: found[name] for name in ("text", "hand", "points", "walls")},
            {"text": "hand 3\npoint a at 0 0\npoint b at 1 1\nwall a b", "hand": 3, "points": ("a", "b"),
             "walls": (("a", "b"),)},
        )

    def test_the_methods_of_a_class_are_its_own(self):
        for name in ("__init__", "__eq__", "__len__", "__contains__", "__getitem__"):
            self.assertIn(name, vars(Book))
            self.assertIn(name, vars(Plan))
        self.assertEqual(list(inspect.signature(Plan.by_hand).parameters), ["self", "bound"])
        self.assertIn("by_hand", vars(Plan))


class Arguments(unittest.TestCase):

    def test_they_are_not_changed(self):
        odd = [["a", {"b": [1, ("c", [True])]}], {"values": [("0", 0)]}, ("ring", [["a", "b", 1]], {0: {}})]
        before = copy.deepcopy(odd)
        for value in odd:
            shows_settled((("a", "b", 1),), value)
            shows_settled((), ("ring", (value,)))
            for call in (lambda: settled((value,)), lambda: least_way((), value, "a"), lambda: Book(value),
                         lambda: Book("among eldest\nlevel 3")[value]):
                with self.assertRaises(DrawError):
                    call()
            self.assertNotIn(value, Book("among eldest\nlevel 3"))
        self.assertEqual(odd, before)

    def test_they_are_not_changed_by_what_plans_are_asked(self):
        odd = [["a", {"b": [1, ("c", [True])]}], {"sure": [("fine",)]}, ["never", "x", [("a", "0", 1)]], {0: {}}]
        before = copy.deepcopy(odd)
        book, plan = Book("among eldest\nlevel 3"), Plan("hand 3\npoint a at 0 0\npoint b by a 9 0")
        texts = book.text, plan.text
        wish, hands = ("level", "a", "b"), ((0, 0), (9, 0))
        for value in odd:
            shows_sure(book, plan, wish, ("sure", value))
            shows_sure(book, plan, wish, ("sure", ("never", "x", (value,))))
            for call in (
                lambda: Plan(value), lambda: plan[value], lambda: plan.by_hand(value), lambda: sure(book, plan, value),
                lambda: drawn(book, plan, value), lambda: taken(book, plan, (value, value)),
                lambda: is_steady(book, plan, ((0, 0), value)), lambda: kept(book, plan, value, hands),
                lambda: kept(book, plan, wish, value),
            ):
                with self.assertRaises(DrawError):
                    call()
            self.assertNotIn(value, plan)
        self.assertEqual(odd, before)
        self.assertEqual((book.text, plan.text), texts)

    def test_they_are_not_changed_by_what_is_told_of_all_wobbles(self):
        odd = [["a", {"b": [1, ("c", [True])]}], {"can": [((0, 0), (9, 0))]}, [0, [("fine",)], 0, ((0, 0),)], {0: {}}]
        before = copy.deepcopy(odd)
        book, plan = Book("among eldest\nlevel 3"), Plan("hand 3\npoint a at 0 0\npoint b by a 9 0")
        texts = book.text, plan.text
        drawing = ((0, 0), (9, 0))
        for value in odd:
            for wrapped in (value, (value,), (value, value), (0, value, 0, value), (3, 9, value, value, value)):
                for found in (
                    shows_outcomes(book, plan, wrapped), shows_spread(book, plan, "x", "b", "a", wrapped),
                    shows_safest(book, plan, (("level", "a", "b"),), wrapped), shows_alike(book, book, plan, wrapped),
                    shows_could(book, plan, drawing, wrapped), shows_could(book, plan, drawing, ("can", value, value)),
                    shows_alike(book, book, plan, ("alike", wrapped)),
                ):
                    self.assertIs(found, False)
            for call in (
                lambda: spread(book, plan, value, "a", "b"), lambda: spread(book, plan, "x", value, "b"),
                lambda: safest(book, plan, value), lambda: safest(book, plan, (value,)),
                lambda: could(book, plan, value), lambda: could(book, plan, (value, value)),
            ):
                with self.assertRaises(DrawError):
                    call()
        self.assertEqual(odd, before)
        self.assertEqual((book.text, plan.text), texts)

"""The interface: which names each landed module defines, what their parameters are called, what is set on objects."""

import copy
import importlib
import inspect
import unittest

from wobblesnap.beside import shows_alike
from wobblesnap.boards import Board
from wobblesnap.books import Book
from wobblesnap.bounds import least_way, settled, shows_settled
from wobblesnap.choosing import cheapest, shows_cheapest
from wobblesnap.coming import safest, shows_outcomes, shows_safest, shows_spread, spread
from wobblesnap.desk import Desk
from wobblesnap.drawing import drawn, is_steady, taken
from wobblesnap.errors import DrawError
from wobblesnap.fences import Bay, behind, fence, shows_fence
from wobblesnap.judging import shows_sure, sure
from wobblesnap.plans import Plan
from wobblesnap.telling import could, shows_could
from wobblesnap.wishes import kept

FUNCTIONS = {
    "wobblesnap.bounds": {
        "settled": ["bounds"],
        "shows_settled": ["bounds", "value"],
        "least_way": ["bounds", "one", "other"],
    },
    "wobblesnap.drawing": {
        "drawn": ["book", "plan", "hands"],
        "taken": ["book", "plan", "hands"],
        "is_steady": ["book", "plan", "hands"],
    },
    "wobblesnap.wishes": {
        "kept": ["book", "plan", "wish", "hands"],
    },
    "wobblesnap.judging": {
        "cases": ["book", "plan"],
        "sure": ["book", "plan", "wish"],
        "shows_sure": ["book", "plan", "wish", "value"],
    },
    "wobblesnap.coming": {
        "outcomes": ["book", "plan"],
        "shows_outcomes": ["book", "plan", "value"],
        "spread": ["book", "plan", "axis", "one", "other"],
        "shows_spread": ["book", "plan", "axis", "one", "other", "value"],
        "safest": ["book", "plan", "wishes"],
        "shows_safest": ["book", "plan", "wishes", "value"],
    },
    "wobblesnap.beside": {
        "alike": ["one", "other", "plan"],
        "shows_alike": ["one", "other", "plan", "value"],
    },
    "wobblesnap.telling": {
        "could": ["book", "plan", "drawing"],
        "shows_could": ["book", "plan", "drawing", "value"],
    },
    "wobblesnap.fences": {
        "behind": ["book", "bay", "standing", "hands"],
        "fence": ["book", "bay", "wish"],
        "shows_fence": ["book", "bay", "wish", "value"],
    },
    "wobblesnap.choosing": {
        "cheapest": ["book", "plan", "offers", "wishes"],
        "shows_cheapest": ["book", "plan", "offers", "wishes", "value"],
    },
    "wobblesnap.boards": {
        "read_board": ["book", "lines"],
    },
}
CLASSES = {
    "wobblesnap.books": {"Book": ["text"]},
    "wobblesnap.plans": {"Plan": ["text"]},
    "wobblesnap.fences": {"Bay": ["text"]},
    "wobblesnap.boards": {"Board": ["book"]},
    "wobblesnap.desk": {"Desk": ["text"]},
}
METHODS = {
    Plan: {"by_hand": ["bound"]},
    Board: {
        "click": ["name", "x", "y"], "wall": ["one", "other"], "way": ["name"], "again": ["bound"], "undo": [],
        "redo": [],
        "trial": [], "keep": [], "tried": ["look", "keep"], "copy": [],
    },
    Desk: {"say": ["line"]},
}


def defined(module, name):
    """What the module has under this name."""
    return getattr(importlib.import_module(module), name)


class Names(unittest.TestCase):

    def test_functions_are_defined_in_their_files(self):
        for module, functions in FUNCTIONS.items():
            for name, parameters in functions.items():
                with self.subTest(module=module, name=name):
                    function = defined(module, name)
                    self.assertTrue(inspect.isfunction(function))
                    self.assertEqual((function.__module__, function.__name__), (module, name))
                    self.assertEqual(list(inspect.signature(function).parameters), parameters)

    def test_classes_are_defined_in_their_files(self):
        for module, classes in CLASSES.items():
            for name, parameters in classes.items():
                with self.subTest(module=module, name=name):
                    found = defined(module, name)
                    self.assertTrue(inspect.isclass(found))
                    self.assertEqual((found.__module__, found.__name__), (module, name))
                    self.assertEqual(list(inspect.signature(found).parameters), parameters)

    def test_the_only_argument_of_an_error(self):
        self.assertEqual(list(inspect.signature(DrawError).parameters), ["value"])

    def test_the_attributes_of_a_book_are_set_when_it_is_created(self):
        self.assertEqual(
            vars(Book("among eldest\nlevel 3")),
            {"text": "among eldest\nlevel 3", "among": "eldest", "rules": (("level", 3),)},
        )

    def test_the_attributes_of_a_plan_are_set_when_it_is_created(self):
        found = vars(Plan("hand 3\npoint a at 0 0\npoint b at 1 1\nwall a b"))
        self.assertEqual(
            {name: found[name] for name in ("text", "hand", "points", "walls")},
            {"text": "hand 3\npoint a at 0 0\npoint b at 1 1\nwall a b", "hand": 3, "points": ("a", "b"),
             "walls": (("a", "b"),)},
        )

    def test_the_methods_of_a_class_are_its_own(self):
        for name in ("__init__", "__eq__", "__len__", "__contains__", "__getitem__"):
            self.assertIn(name, vars(Book))
            self.assertIn(name, vars(Plan))
            self.assertIn(name, vars(Board))
        for name in ("__init__", "__eq__"):
            self.assertIn(name, vars(Bay))
        for found, methods in METHODS.items():
            for name, parameters in methods.items():
                with self.subTest(found=found, name=name):
                    self.assertIn(name, vars(found))
                    self.assertEqual(list(inspect.signature(vars(found)[name]).parameters), ["self"] + parameters)
        keep = inspect.signature(Board.tried).parameters["keep"]
        self.assertEqual((keep.kind, keep.default), (inspect.Parameter.KEYWORD_ONLY, False))

    def test_the_attributes_of_a_bay_are_set_when_it_is_created(self):
        text = "hand 1\nfrom a 0 0\npoint b by a 1 1\nwall a b\ngoes b"
        found = vars(Bay(text))
        self.assertEqual(
            {name: found[name] for name in ("text", "hand", "starts", "points", "walls", "goes")},
            {"text": text, "hand": 1, "starts": (("a", (0, 0)),), "points": ("b",), "walls": (("a", "b"),),
             "goes": ("b",)},
        )

    def test_the_attributes_of_a_board_and_of_a_desk_are_set_when_they_are_created(self):
        book = Book("among eldest\nlevel 3")
        board = Board(book)
        self.assertEqual([getattr(board, name) for name in ("book", "points", "walls", "done", "journal")],
                         [book, (), (), 0, ()])
        self.assertEqual(Desk(book.text).board, board)


class Arguments(unittest.TestCase):

    def test_they_are_not_changed(self):
        odd = [["a", {"b": [1, ("c", [True])]}], {"values": [("0", 0)]}, ("ring", [["a", "b", 1]], {0: {}})]
        before = copy.deepcopy(odd)
        for value in odd:
            shows_settled((("a", "b", 1),), value)
            shows_settled((), ("ring", (value,)))
            for call in (lambda: settled((value,)), lambda: least_way((), value, "a"), lambda: Book(value),
                         lambda: Book("among eldest\nlevel 3")[value]):
                with self.assertRaises(DrawError):
                    call()
            self.assertNotIn(value, Book("among eldest\nlevel 3"))
        self.assertEqual(odd, before)

    def test_they_are_not_changed_by_what_plans_are_asked(self):
        odd = [["a", {"b": [1, ("c", [True])]}], {"sure": [("fine",)]}, ["never", "x", [("a", "0", 1)]], {0: {}}]
        before = copy.deepcopy(odd)
        book, plan = Book("among eldest\nlevel 3"), Plan("hand 3\npoint a at 0 0\npoint b by a 9 0")
        texts = book.text, plan.text
        wish, hands = ("level", "a", "b"), ((0, 0), (9, 0))
        for value in odd:
            shows_sure(book, plan, wish, ("sure", value))
            shows_sure(book, plan, wish, ("sure", ("never", "x", (value,))))
            for call in (
                lambda: Plan(value), lambda: plan[value], lambda: plan.by_hand(value), lambda: sure(book, plan, value),
                lambda: drawn(book, plan, value), lambda: taken(book, plan, (value, value)),
                lambda: is_steady(book, plan, ((0, 0), value)), lambda: kept(book, plan, value, hands),
                lambda: kept(book, plan, wish, value),
            ):
                with self.assertRaises(DrawError):
                    call()
            self.assertNotIn(value, plan)
        self.assertEqual(odd, before)
        self.assertEqual((book.text, plan.text), texts)

    def test_they_are_not_changed_by_what_is_told_of_all_wobbles(self):
        odd = [["a", {"b": [1, ("c", [True])]}], {"can": [((0, 0), (9, 0))]}, [0, [("fine",)], 0, ((0, 0),)], {0: {}}]
        before = copy.deepcopy(odd)
        book, plan = Book("among eldest\nlevel 3"), Plan("hand 3\npoint a at 0 0\npoint b by a 9 0")
        texts = book.text, plan.text
        drawing = ((0, 0), (9, 0))
        for value in odd:
            for wrapped in (value, (value,), (value, value), (0, value, 0, value), (3, 9, value, value, value)):
                for found in (
                    shows_outcomes(book, plan, wrapped), shows_spread(book, plan, "x", "b", "a", wrapped),
                    shows_safest(book, plan, (("level", "a", "b"),), wrapped), shows_alike(book, book, plan, wrapped),
                    shows_could(book, plan, drawing, wrapped), shows_could(book, plan, drawing, ("can", value, value)),
                    shows_alike(book, book, plan, ("alike", wrapped)),
                ):
                    self.assertIs(found, False)
            for call in (
                lambda: spread(book, plan, value, "a", "b"), lambda: spread(book, plan, "x", value, "b"),
                lambda: safest(book, plan, value), lambda: safest(book, plan, (value,)),
                lambda: could(book, plan, value), lambda: could(book, plan, (value, value)),
            ):
                with self.assertRaises(DrawError):
                    call()
        self.assertEqual(odd, before)
        self.assertEqual((book.text, plan.text), texts)

    def test_they_are_not_changed_by_what_is_told_of_fences_and_offers(self):
        odd = [["a", {"b": [1, ("c", [True])]}], {"sure": [((0, 10),)]}, ["none", [("fine",)]], {0: {}}]
        before = copy.deepcopy(odd)
        book, plan = Book("among eldest\nlevel 3"), Plan("hand 3\npoint a at 0 0\npoint b by a 9 0")
        bay = Bay("hand 1\nfrom a 0 0\npoint b by a 9 0\ngoes b")
        wish, offers = ("level", "a", "b"), (("book", 2, "level 4", 1),)
        for value in odd:
            for wrapped in (value, (value,), ("sure", value), ("fails", (value,)), ("choice", 0, (), value, value)):
                self.assertIs(shows_fence(book, bay, wish, wrapped), False)
                self.assertIs(shows_cheapest(book, plan, offers, (wish,), wrapped), False)
            for call in (
                lambda: behind(book, bay, value, value), lambda: behind(book, bay, (), value),
                lambda: behind(book, bay, (), (value,)), lambda: fence(book, bay, value), lambda: Bay(value),
                lambda: cheapest(book, plan, value, (wish,)), lambda: cheapest(book, plan, (value,), (wish,)),
                lambda: cheapest(book, plan, offers, value), lambda: cheapest(book, plan, offers, (value,)),
                lambda: Desk(value), lambda: Desk(book.text).say(value),
            ):
                with self.assertRaises(DrawError):
                    call()
        self.assertEqual(odd, before)

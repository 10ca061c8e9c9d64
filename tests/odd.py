"""Values of all kinds, for the tests: what is not as its definition tells is refused, whatever it is."""

import unittest

from wobblesnap.boards import Board
from wobblesnap.books import Book
from wobblesnap.desk import Desk
from wobblesnap.fences import Bay
from wobblesnap.plans import Plan


def nested(value, deep, wrap):
    """The value within so many layers, each of which wrap puts around."""
    for _ in range(deep):
        value = wrap(value)
    return value


def odd_values():
    """Values of each kind that "any value" may be, one of each class included."""
    return [
        0, 1, -1, 999999999, True, False, None,
        "", "0", "a", "a!", "A", "abcdefghi", "values", "ring", "corner",
        (), (0,), ("a",), ("a", "b"), ("a", "b", 1), (("a", "b", 1),), (None,), (True, False),
        [], [0], ["a", "b", 1], [("a", "b", 1)], [[]], [None],
        {}, {"a": 1}, {"a": {"b": [1]}}, {0: ("a", "b", 1)},
        Book("among eldest\nlevel 3"), Plan("hand 3\npoint a at 0 0"), (Plan("hand 0\npoint b at 1 1"), 1),
        Bay("hand 1\nfrom a 0 0\npoint b by a 9 0\ngoes b"), Board(Book("among latest\ngrid 9")),
        Desk("among latest\ngrid 9"), [Board(Book("among eldest\nlevel 3"))],
        nested("a", 30, lambda value: (value,)),
        nested(1, 30, lambda value: [value]),
        nested(None, 30, lambda value: {"a": value}),
        nested(("a", "b", 1), 28, lambda value: (value, [value])[:1]),
        (["a", {"b": ("c", [True, None])}],),
    ]


def odd_but(*kinds):
    """The odd values that are of none of these kinds; a bool is a kind of its own here."""
    return [value for value in odd_values() if type(value) not in kinds]


def with_each_part_changed(value, path=()):
    """(path, changed) for each part of nested tuples put in another one's place, none of which fits there."""
    for other in odd_but(type(value)):
        yield path, other
    if isinstance(value, tuple):
        yield path, list(value)
        yield path, value + (None,)
        yield path, {at: part for at, part in enumerate(value)}
        for at, part in enumerate(value):
            yield path + (at,), value[:at] + value[at + 1:]
            for inner_path, changed in with_each_part_changed(part, path + (at,)):
                yield inner_path, value[:at] + (changed,) + value[at + 1:]
    elif isinstance(value, str):
        yield path, [value]
        yield path, value + "?"
    elif isinstance(value, int):
        yield path, (value,)
        yield path, str(value)
        if value in (0, 1):
            yield path, bool(value)


def with_each_part_moved(value):
    """The value with each of its numbers one more or one less, each of its strings another one, parts out or twice."""
    if isinstance(value, tuple):
        for at, part in enumerate(value):
            yield value[:at] + value[at + 1:]
            yield value[:at] + (part,) + value[at:]
            if at:
                yield value[:at - 1] + (part, value[at - 1]) + value[at + 1:]
            for changed in with_each_part_moved(part):
                yield value[:at] + (changed,) + value[at + 1:]
    elif isinstance(value, str):
        for other in ("a", "b", "c!", "0", "x", "y", "fine", "never", "free", "level", "can", "sure", "fails"):
            if other != value:
                yield other
    else:
        yield value - 1
        yield value + 1


class RefusingTestCase(unittest.TestCase):
    """Tests that a call raises just the error that is named, with just the value that is told."""

    def refuses(self, error, value, call, /, *args, **named):
        with self.assertRaises(error) as caught:
            call(*args, **named)
        self.assertIs(type(caught.exception), error)
        if isinstance(value, int):
            self.assertIs(type(caught.exception.value), type(value))
            self.assertEqual(caught.exception.value, value)
        else:
            self.assertIs(caught.exception.value, value)

"""Wishes: what a drawing should be like."""

from wobblesnap.drawing import check_hands, draw
from wobblesnap.errors import BadWish, BadWishes
from wobblesnap.forms import is_integer, is_name
from wobblesnap.rules import all_yes, lies_on, within

MOST_WISHES = 3
# How many names each wish tells, and from where to where its numbers go.
NAMES = {"same": 2, "level": 2, "upright": 2, "x": 2, "y": 2, "on": 3, "apart": 2}
RANGES = {
    "x": ((-99999, 99999), (-99999, 99999)),
    "y": ((-99999, 99999), (-99999, 99999)),
    "apart": ((1, 99999),),
}


def kept(book, plan, wish, hands):
    """Whether what is drawn by these hands keeps the wish."""
    check_wish(plan.points, wish)
    check_hands(plan, hands)
    numbers, _ = draw(book, plan, hands)
    return answer_of(numbers, wish)


def check_wish(names, value):
    """Refuse any value that is no wish of points of these names."""
    if not is_wish(names, value):
        raise BadWish(value)


def check_wishes(names, value):
    """Refuse any value that is no tuple of one to three wishes of points of these names."""
    if not are_some(value) or not all([is_wish(names, wish) for wish in value]):
        raise BadWishes(value)


def check_free_wishes(value):
    """Refuse any value that is no tuple of one to three wishes, whatever points there are."""
    if not are_some(value) or not all([is_free_wish(wish) for wish in value]):
        raise BadWishes(value)


def are_some(value):
    """Whether any value is a tuple of one to three parts."""
    return isinstance(value, tuple) and 1 <= len(value) <= MOST_WISHES


def is_free_wish(value):
    """Whether any value is a wish, any names being points."""
    return isinstance(value, tuple) and is_wish([part for part in value if is_name(part)], value)


def is_wish(names, value):
    """Whether any value is a wish of points of these names."""
    if not isinstance(value, tuple) or len(value) == 0:
        return False
    if not isinstance(value[0], str) or value[0] not in NAMES:
        return False
    many = 1 + NAMES[value[0]]
    ranges = RANGES.get(value[0], ())
    if len(value) != many + len(ranges) or not are_unlike(names, value[1:many]):
        return False
    return all([is_from_to(number, low, high) for number, (low, high) in zip(value[many:], ranges)])


def is_from_to(value, low, high):
    """Whether any value is an integer from low to high."""
    return is_integer(value) and low <= value <= high


def are_unlike(names, values):
    """Whether these values are some of the names, no two alike."""
    if not all([isinstance(value, str) and value in names for value in values]):
        return False
    return len(set(values)) == len(values)


def answer_of(asker, wish):
    """Whether a wish is kept, by the comparisons that it asks; None if this is not known."""
    if wish[0] == "on":
        return lies_on(asker, wish[1], wish[2], wish[3], 0)
    if wish[0] == "apart":
        return are_apart(asker, wish[1], wish[2], wish[3])
    return all_yes(asker, comparisons_of(wish))


def are_apart(asker, one, other, many):
    """Whether two points differ by so many in x or in y; None if this is not known."""
    near = all_yes(asker, within("x", one, other, many - 1) + within("y", one, other, many - 1))
    if near is None:
        return None
    return not near


def comparisons_of(wish):
    """The comparisons all of which have to be yes for a wish that is not told by walls or as apart."""
    kind, one, other = wish[:3]
    if kind == "same":
        return within("x", one, other, 0) + within("y", one, other, 0)
    if kind == "level":
        return within("y", one, other, 0)
    if kind == "upright":
        return within("x", one, other, 0)
    return [(kind, one, other, wish[4]), (kind, other, one, -wish[3])]

"""What a list of all steady hands tells of sections 10 to 12: which values are right answers, by this list alone."""

import functools

from tests.reference import all_steady, draw_all, is_kept, is_right
from wobblesnap.books import Book
from wobblesnap.plans import Plan


def rows_of(book, plan):
    """(hands, drawn, ways) for all steady hands."""
    return rows_by(book.text, plan.text)


@functools.lru_cache(maxsize=8)
def rows_by(book_text, plan_text):
    """As rows_of; the last ones are kept, since many values are compared by one list."""
    book, plan = Book(book_text), Plan(plan_text)
    return [(hands, places, draw_all(book, plan, hands)[1]) for hands, places in all_steady(book, plan)]


def same(value, told):
    """Whether a value is this one, of the same types throughout (True is not 1)."""
    return repr(value) == repr(told)


def among(value, told):
    """Whether a value is one of these, of the same types throughout."""
    return any(same(value, row) for row in told)


def is_row(value, many):
    """Whether a value is a tuple of so many parts."""
    return type(value) is tuple and len(value) == many


def is_outcomes(rows, value):
    """Whether a value is right for outcomes."""
    ways = sorted({ways for _, _, ways in rows})
    if not is_row(value, len(ways)) or not all(is_row(row, 2) for row in value):
        return False
    return all(
        same(told, way) and among(hands, [row[0] for row in rows if row[2] == way])
        for (told, hands), way in zip(value, ways)
    )


def less(plan, axis, one, other, places):
    """The coordinate of one less that of other."""
    told = dict(zip(plan.points, places))
    at = "xy".index(axis)
    return told[one][at] - told[other][at]


def is_spread(book, plan, rows, pair, value):
    """Whether a value is right for spread; pair is (axis, one, other)."""
    if not is_row(value, 5):
        return False
    found = [(less(plan, *pair, places), hands) for hands, places, _ in rows]
    low, high = min(found)[0], max(found)[0]
    if not same(value[:2], (low, high)):
        return False
    for hands, number in zip(value[2:4], (low, high)):
        if not among(hands, [row[1] for row in found if row[0] == number]):
            return False
    return is_right(book, plan, pair + (low, high), value[4])


def failing(plan, rows, wish):
    """All hands by which a wish is not kept."""
    return [hands for hands, places, _ in rows if not is_kept(plan, wish, places)]


def greatest_safe(book, plan, wishes, most):
    """The greatest bound by which all wishes are kept, if it is below most, otherwise None."""
    for bound in range(most + 1):
        held = plan.by_hand(bound)
        rows = rows_of(book, held)
        if any(failing(held, rows, wish) for wish in wishes):
            return bound - 1
    return None


def is_safest(book, plan, wishes, bound, value):
    """Whether a value is right for safest, the greatest safe bound being this one, below 99."""
    if not is_row(value, 4) or not same(value[0], bound):
        return False
    _, trees, number, hands = value
    if bound < 0 and not same(trees, ()):
        return False
    if bound >= 0 and not are_trees(book, plan.by_hand(bound), wishes, trees):
        return False
    if type(number) is not int or not 0 <= number < len(wishes):
        return False
    held = plan.by_hand(bound + 1)
    return among(hands, failing(held, rows_of(book, held), wishes[number]))


def are_trees(book, plan, wishes, value):
    """Whether a value is a right tree for each wish."""
    return is_row(value, len(wishes)) and all(is_right(book, plan, *told) for told in zip(wishes, value))


def parting(other, plan, rows):
    """All of these hands by which another book draws something else."""
    return [hands for hands, places, _ in rows if draw_all(other, plan, hands)[0] != places]


def is_alike(one, other, plan, rows, value):
    """Whether a value is right for alike, rows being those by one."""
    found = parting(other, plan, rows)
    if not is_row(value, 2):
        return False
    if found:
        return same(value[0], "parts") and among(value[1], found)
    return same(value[0], "alike") and is_right(one, plan, other, value[1])


def is_could(rows, drawing, value):
    """Whether a value is right for could."""
    found = [hands for hands, places, _ in rows if places == drawing]
    if not found:
        many = min(
            many for many in range(1, len(drawing) + 1)
            if not any(places[:many] == drawing[:many] for _, places, _ in rows)
        )
        return same(value, ("never", many))
    ranges = tuple(
        tuple((min(hands[point][at] for hands in found), max(hands[point][at] for hands in found)) for at in (0, 1))
        for point in range(len(drawing))
    )
    return is_row(value, 3) and same(value[0], "can") and among(value[1], found) and same(value[2], ranges)

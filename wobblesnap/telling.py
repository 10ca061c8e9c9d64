"""Told back: which hands can have made a drawing that is seen."""

from wobblesnap.drawing import Numbers, click_at, drawn, is_hands, is_steady
from wobblesnap.errors import BadDrawing
from wobblesnap.forms import AXES, is_just
from wobblesnap.rules import aimed_at


def could(book, plan, drawing):
    """("can", hands, ranges) if steady hands can have drawn this, or ("never", many): how many points cannot be so."""
    check_drawing(plan, drawing)
    numbers = Numbers()
    hands = []
    ranges = []
    # What is drawn is known, so each hand has to do with no other one.
    for at, place in enumerate(drawing):
        patches = fitting_patches(book, plan, numbers, at, place)
        if len(patches) == 0:
            return "never", at + 1
        hands.append(lowest_of(patches[0]))
        ranges.append((range_of([xs for xs, _ in patches]), range_of([ys for _, ys in patches])))
        numbers.put_place(plan.points[at], place)
    return "can", tuple(hands), tuple(ranges)


def shows_could(book, plan, drawing, value):
    """Whether any value is a right answer of could."""
    told = could(book, plan, drawing)
    if told[0] == "never":
        return is_just(value, told)
    if not isinstance(value, tuple) or len(value) != 3:
        return False
    kind, hands, ranges = value
    if not is_just(kind, "can") or not is_just(ranges, told[2]) or not is_hands(plan, hands):
        return False
    return is_steady(book, plan, hands) and drawn(book, plan, hands) == drawing


def check_drawing(plan, value):
    """Refuse any value that is no place for each point of the plan."""
    # Where points are, and where hands are, has one form.
    if not is_hands(plan, value):
        raise BadDrawing(value)


def fitting_patches(book, plan, numbers, at, place):
    """The patches all hands in which draw the point of this number, from 0, at a place, below what is drawn."""
    name, aim, bound, walls = plan.clicks[at]
    strips = []
    for axis, wanted in zip(AXES, place):
        term, number = aimed_at(aim, axis)
        middle = numbers.worth[axis][term] + number
        elders = [numbers.worth[axis][point] for point in plan.points[:at]]
        strips.append(strips_between(middle - bound, middle + bound, borders(book, elders, wanted)))
    fitting = []
    for patch in [(xs, ys) for xs in strips[0] for ys in strips[1]]:
        click_at(numbers, book, name, lowest_of(patch), plan.points[:at], walls)
        if numbers.place_of(name) == place:
            fitting.append(patch)
    return fitting


def borders(book, elders, wanted):
    """Where in an axis, among elder points, it may change whether what is wanted is drawn: each first number behind."""
    found = [wanted, wanted + 1]
    for word, number in book.rules:
        if word == "grid":
            found.extend([wanted - number // 2, wanted + number - number // 2])
        else:
            for elder in elders:
                found.extend([elder - number, elder, elder + 1, elder + number + 1])
    return found


def strips_between(low, high, firsts):
    """The (first, last) of the strips from low to high that begin with low and with these numbers."""
    starts = sorted(set([low] + [first for first in firsts if low < first <= high]))
    return list(zip(starts, [start - 1 for start in starts[1:]] + [high]))


def lowest_of(patch):
    """The lowest place in a patch ((first, last) in x, (first, last) in y)."""
    xs, ys = patch
    return xs[0], ys[0]


def range_of(strips):
    """The least and the greatest number in these strips."""
    return min([first for first, _ in strips]), max([last for _, last in strips])

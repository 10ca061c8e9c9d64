"""How the rules of a book help a click, whoever answers the comparisons that they ask.

Who answers has asks(axis, one, other, most): whether the one term less the other one is at most most; multiple(axis,
term, step): the number of the multiple of step that is nearest to the term; both None if this is not known; and
put_alike(axis, one, other, number): from now on the one term is the other one and this number.
"""

from wobblesnap.bounds import ZERO
from wobblesnap.forms import AXES

# Along which axis a wall goes, and across which one: first a level one, then an upright one.
SENSES = (("x", "y"), ("y", "x"))


class Click:
    """A click on its way through the rules; ways tells, by axis, how what is free no more was taken."""

    def __init__(self, asker, book, name, points, walls):
        self.asker = asker
        self.name = name
        self.hand = hand_of(name)
        self.last = points[-1:]
        self.points = points
        self.walls = walls
        if book.among == "latest":
            self.points = points[::-1]
            self.walls = walls[::-1]
        self.ways = {}

    def is_free(self):
        """Whether both coordinates are free."""
        return len(self.ways) == 0

    def free_axes(self):
        """The axes whose coordinates are free."""
        return [axis for axis in AXES if axis not in self.ways]

    def take(self, axis, way, term, number):
        """Take the coordinate of a term and this number."""
        self.ways[axis] = way
        self.asker.put_alike(axis, self.name, term, number)


def hand_of(name):
    """The term of the hand of the point of this name."""
    return name + "!"


def aimed_at(aim, axis):
    """The (term, number) beside which a click with this aim is aimed."""
    if aim[0] == "cross":
        return aim[1 + AXES.index(axis)], 0
    number = aim[AXES.index(axis) - 2]
    if aim[0] == "by":
        return aim[1], number
    return ZERO, number


def click_through(asker, book, name, points, walls):
    """(way for x, way for y): how the point comes, below these points and walls; None if not enough is known."""
    click = Click(asker, book, name, points, walls)
    for word, number in book.rules:
        rule = RULES[word]
        if not rule(click, number):
            return None
    for axis in click.free_axes():
        click.take(axis, ("free",), click.hand, 0)
    return click.ways["x"], click.ways["y"]


def corner_rule(click, reach):
    """Take the first corner that is near; whether enough is known for this."""
    if not click.is_free():
        return True
    for point in click.points:
        fits = all_yes(click.asker, within("x", click.hand, point, reach) + within("y", click.hand, point, reach))
        if fits is None:
            return False
        if fits:
            for axis in AXES:
                click.take(axis, ("corner", point), point, 0)
            return True
    return True


def wall_rule(click, reach):
    """Come onto the first wall that fits; whether enough is known for this."""
    if not click.is_free():
        return True
    for one, other in click.walls:
        for along, across in SENSES:
            fits = lies_along(click.asker, click.hand, one, other, reach, along, across)
            if fits is None:
                return False
            if fits:
                click.take(across, ("wall", one, other), one, 0)
                return True
    return True


def level_rule(click, reach):
    """Become level with elder points; whether enough is known for this."""
    return become_level(click, "level", click.points, reach)


def straight_rule(click, reach):
    """Become level with the point that was drawn last; whether enough is known for this."""
    return become_level(click, "straight", click.last, reach)


def become_level(click, word, points, reach):
    """Take what is free from the first of these points that is near in its axis; whether enough is known for this."""
    for axis in click.free_axes():
        point = first_near(click, axis, points, reach)
        if point is None:
            return False
        if point != "":
            click.take(axis, (word, point), point, 0)
    return True


def first_near(click, axis, points, reach):
    """The first one of these points that is near in this axis, "" if none is; None if this is not known."""
    for point in points:
        fits = all_yes(click.asker, within(axis, click.hand, point, reach))
        if fits is None:
            return None
        if fits:
            return point
    return ""


def grid_rule(click, step):
    """Take the nearest multiples; whether enough is known for this."""
    for axis in click.free_axes():
        number = click.asker.multiple(axis, click.hand, step)
        if number is None:
            return False
        click.take(axis, ("grid",), ZERO, number * step)
    return True


def all_yes(asker, comparisons):
    """Whether all these comparisons are yes, up to the first one that is not; None if that one is not known."""
    for axis, one, other, most in comparisons:
        answer = asker.asks(axis, one, other, most)
        if not answer:
            return answer
    return True


def within(axis, one, other, reach):
    """The comparisons by which one term is within so much of another one."""
    return [(axis, one, other, reach), (axis, other, one, reach)]


def lies_on(asker, term, one, other, reach):
    """Whether a wall fits a term as a level one, or else as an upright one; None if this is not known."""
    for along, across in SENSES:
        fits = lies_along(asker, term, one, other, reach, along, across)
        if fits is None or fits:
            return fits
    return False


def lies_along(asker, term, one, other, reach, along, across):
    """Whether a wall that goes along this axis fits a term; None if this is not known."""
    fits = all_yes(asker, within(across, one, other, 0) + within(across, term, one, reach))
    if fits is None or not fits:
        return fits
    fits = all_yes(asker, [(along, one, term, -1), (along, term, other, -1)])
    if fits is None or fits:
        return fits
    return all_yes(asker, [(along, other, term, -1), (along, term, one, -1)])


RULES = {
    "corner": corner_rule,
    "wall": wall_rule,
    "level": level_rule,
    "straight": straight_rule,
    "grid": grid_rule,
}

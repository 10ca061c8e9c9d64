"""Going by bounds: through a plan, as far as bounds of differences tell how it goes."""

from wobblesnap.bounds import ZERO
from wobblesnap.forms import AXES
from wobblesnap.rules import aimed_at, click_through, hand_of
from wobblesnap.ways import Ways


class Going:
    """Answers comparisons by the bounds that were put so far.

    bounds has, for each axis, all that were put, also such as tell nothing more; question is the last
    comparison that was neither yes nor no.
    """

    def __init__(self):
        self.bounds = {"x": [], "y": []}
        self.ways = {"x": Ways(), "y": Ways()}
        self.question = None

    def put(self, axis, one, other, most):
        """Put a bound to those of an axis."""
        self.bounds[axis].append((one, other, most))
        self.ways[axis].put(one, other, most)

    def put_alike(self, axis, one, other, number):
        """Let the one term be the other one and this number."""
        self.put(axis, one, other, number)
        self.put(axis, other, one, -number)

    def put_answer(self, question, answer):
        """Put what it means if a question is answered by yes (True), or by no (False)."""
        axis, bound = bound_of(question, answer)
        self.put(axis, bound[0], bound[1], bound[2])

    def asks(self, axis, one, other, most):
        """Whether the bounds tell that the one term less the other one is at most so much, or more; None if neither."""
        if self.ways[axis].tells(one, other, most):
            return True
        if self.ways[axis].tells(other, one, -most - 1):
            return False
        self.question = (axis, one, other, most)
        return None

    def multiple(self, axis, term, step):
        """The number of the multiple of which the bounds tell that it is the nearest one; None if of none."""
        lowest = -self.ways[axis].least(ZERO, term)
        number = (lowest + step // 2) // step
        if self.asks(axis, term, ZERO, number * step + step - step // 2 - 1):
            return number
        return None

    def is_contrary(self):
        """Whether the bounds of an axis have a ring with a sum below 0."""
        return self.ways["x"].contrary or self.ways["y"].contrary

    def branched(self, question, answer):
        """An independent copy to which an answer is put."""
        twin = Going()
        for axis in AXES:
            twin.bounds[axis] = list(self.bounds[axis])
            twin.ways[axis] = self.ways[axis].branched()
        twin.put_answer(question, answer)
        return twin


def bound_of(question, answer):
    """The (axis, bound) that it means if a question (axis, one, other, n) is answered by True or False."""
    axis, one, other, most = question
    if answer:
        return axis, (one, other, most)
    return axis, (other, one, -most - 1)


def goes_through(going, book, plan):
    """Go through all of a plan; whether the going does not stop."""
    if going.is_contrary():
        return False
    for at in range(len(plan)):
        if not goes_on(going, book, plan, at):
            return False
    return True


def goes_on(going, book, plan, at):
    """Go through the point of this number, from 0; whether the going does not stop."""
    name, aim, bound, walls = plan.clicks[at]
    hand = hand_of(name)
    for axis in AXES:
        term, number = aimed_at(aim, axis)
        going.put(axis, hand, term, number + bound)
        going.put(axis, term, hand, bound - number)
    if going.is_contrary():
        return False
    came = click_through(going, book, name, plan.points[:at], walls)
    return came is not None and not going.is_contrary()

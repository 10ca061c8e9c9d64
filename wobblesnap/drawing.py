"""Hands: where each click of a plan was, and what is drawn by them."""

from wobblesnap.bounds import ZERO
from wobblesnap.errors import BadHands
from wobblesnap.forms import AXES, are_places
from wobblesnap.rules import aimed_at, click_through, hand_of


class Numbers:
    """Answers all comparisons by where the hands were, and by what is drawn."""

    def __init__(self):
        self.worth = {"x": {ZERO: 0}, "y": {ZERO: 0}}

    def asks(self, axis, one, other, most):
        """Whether the one term less the other one is at most so much."""
        return self.less(axis, one, other) <= most

    def multiple(self, axis, term, step):
        """The number of the nearest multiple, of two that are as near the greater one."""
        return (self.worth[axis][term] + step // 2) // step

    def put_alike(self, axis, one, other, number):
        """Let the one term be the other one and this number."""
        self.worth[axis][one] = self.worth[axis][other] + number

    def put_place(self, term, place):
        """Let the point, or the hand, of this term be at a place."""
        for axis, number in zip(AXES, place):
            self.put_alike(axis, term, ZERO, number)

    def less(self, axis, one, other):
        """The one term less the other one."""
        return self.worth[axis][one] - self.worth[axis][other]

    def place_of(self, term):
        """The place at which the point, or the hand, of this term is."""
        return self.worth["x"][term], self.worth["y"][term]

    def branched(self):
        """An independent copy."""
        twin = Numbers()
        twin.worth = {axis: dict(self.worth[axis]) for axis in AXES}
        return twin


def drawn(book, plan, hands):
    """The tuple of the places of the drawn points."""
    check_hands(plan, hands)
    numbers, _ = draw(book, plan, hands)
    return tuple([numbers.place_of(name) for name in plan.points])


def taken(book, plan, hands):
    """How each point came: the tuple of (for x, for y)."""
    check_hands(plan, hands)
    _, ways = draw(book, plan, hands)
    return tuple(ways)


def is_steady(book, plan, hands):
    """Whether each hand is off by at most its bound from what it is aimed at."""
    check_hands(plan, hands)
    numbers, _ = draw(book, plan, hands)
    return all([is_near_aim(numbers, name, plan[name]) for name in plan.points])


def check_hands(plan, value):
    """Refuse any value that is no hands of this plan."""
    if not is_hands(plan, value):
        raise BadHands(value)


def is_hands(plan, value):
    """Whether any value is hands of this plan."""
    return are_places(value, len(plan))


def draw(book, plan, hands):
    """(numbers, ways): all that is drawn by these hands, and the list of how each point came."""
    numbers = Numbers()
    ways = []
    for at, (name, _, _, walls) in enumerate(plan.clicks):
        ways.append(click_at(numbers, book, name, hands[at], plan.points[:at], walls))
    return numbers, ways


def click_at(numbers, book, name, hand, points, walls):
    """(way for x, way for y): how a point comes that is clicked at this place, below these points and walls."""
    numbers.put_place(hand_of(name), hand)
    return click_through(numbers, book, name, points, walls)


def is_near_aim(numbers, name, aimed):
    """Whether the hand of this point is near enough to what it is aimed at, by its (aim, bound)."""
    aim, bound = aimed
    for axis in AXES:
        term, number = aimed_at(aim, axis)
        if abs(numbers.less(axis, hand_of(name), term) - number) > bound:
            return False
    return True

"""Two books beside each other: whether all that is drawn by the one is drawn alike by the other."""

from wobblesnap.drawing import drawn, is_hands, is_steady
from wobblesnap.judging import all_cases, leaves_of, some_hands
from wobblesnap.rules import all_yes, click_through
from wobblesnap.trees import is_right_tree, tree_of


class Beside:
    """Answers by the bounds of a going, to which it puts nothing: what is taken has to be there already.

    there tells whether all that was taken so far is; None if this is not known.
    """

    def __init__(self, going):
        self.told = going
        self.there = True

    def asks(self, axis, one, other, most):
        """Whether the bounds tell that the one term less the other one is at most so much."""
        return self.told.asks(axis, one, other, most)

    def multiple(self, axis, term, step):
        """The number of the multiple of which the bounds tell that it is the nearest one."""
        return self.told.multiple(axis, term, step)

    def put_alike(self, axis, one, other, number):
        """Look whether the bounds tell that the one term is the other one and this number."""
        if self.there:
            self.there = all_yes(self.told, [(axis, one, other, number), (axis, other, one, -number)])


def alike(one, other, plan):
    """("alike", tree) if all hands steady by one book are drawn alike by the other, otherwise ("parts", hands)."""
    found = all_cases(one, plan)
    all_cases(other, plan)
    leaves, parted = leaves_of(found, lambda going: are_drawn_alike(going, other, plan))
    if parted is not None:
        return "parts", some_hands(plan, parted)
    return "alike", tree_of(leaves)


def shows_alike(one, other, plan, value):
    """Whether any value is a right answer of alike."""
    all_cases(one, plan)
    all_cases(other, plan)
    if not isinstance(value, tuple) or len(value) != 2:
        return False
    kind, told = value
    if kind == "parts":
        return are_parted(one, other, plan, told)
    return kind == "alike" and is_right_tree(
        one, plan, told, lambda going: are_drawn_alike(going, other, plan) is True)


def are_parted(one, other, plan, value):
    """Whether any value is hands that are steady by the one book and not drawn alike by the other."""
    if not is_hands(plan, value) or not is_steady(one, plan, value):
        return False
    return drawn(one, plan, value) != drawn(other, plan, value)


def are_drawn_alike(going, other, plan):
    """Whether the other book draws all points as a going by the one book did; None if this is not known."""
    beside = Beside(going)
    for at, (name, _, _, walls) in enumerate(plan.clicks):
        came = click_through(beside, other, name, plan.points[:at], walls)
        # What is taken otherwise is so whatever the answers were that are not known yet.
        if beside.there is False:
            return False
        if came is None or beside.there is None:
            return None
    return True

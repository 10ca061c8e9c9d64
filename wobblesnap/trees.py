"""Trees of cases: put together of the answers that lead to each leaf, and gone over leaf by leaf."""

from wobblesnap.bounds import ZERO, is_ring_below_zero
from wobblesnap.forms import AXES, is_axis, is_integer
from wobblesnap.going import Going, bound_of, goes_through


class Answers:
    """The answers on the way to where one looks in a tree.

    They can be very many: so for each pair of terms the least bound is kept up, and all bounds are counted.
    """

    def __init__(self):
        self.leasts = {"x": {}, "y": {}}
        self.counts = {"x": {}, "y": {}}

    def put(self, axis, bound):
        """Take an answer's bound to the others."""
        leasts = self.leasts[axis].setdefault(bound[:2], [])
        if len(leasts) == 0:
            leasts.append(bound[2])
        else:
            leasts.append(min(bound[2], leasts[-1]))
        self.counts[axis][bound] = self.counts[axis].get(bound, 0) + 1

    def take_back(self, axis, bound):
        """Take back the bound that was put last."""
        self.leasts[axis][bound[:2]].pop()
        self.counts[axis][bound] = self.counts[axis][bound] - 1

    def has(self, axis, bound):
        """Whether there is an answer with this bound."""
        return self.counts[axis].get(bound, 0) > 0

    def going(self):
        """A going by these answers."""
        going = Going()
        for axis in AXES:
            for (one, other), leasts in self.leasts[axis].items():
                if len(leasts) > 0:
                    going.put(axis, one, other, leasts[-1])
        return going


def tree_of(leaves):
    """The tree all of whose leaves are fine.

    For each leaf there is the list of (question, answer) on the way to it, leaves behind yes ahead of those behind no.
    """
    waiting = []
    for answers in leaves:
        tree = ("fine",)
        rest = list(answers)
        while len(rest) > 0 and not rest[-1][1]:
            question, _ = rest.pop()
            tree = ("ask",) + question + (waiting.pop(), tree)
        waiting.append(tree)
    return waiting.pop()


def is_right_tree(book, plan, tree, is_fine):
    """Whether any value is a right tree; is_fine tells of a going that did not stop whether the leaf is fine by it."""
    answers = Answers()
    # Trees can be very deep: so what is still to be done stands in a list, what comes next at its end.
    pending = [("look", tree)]
    while len(pending) > 0:
        deed, told = pending.pop()
        if deed == "put":
            answers.put(told[0], told[1])
        elif deed == "take back":
            answers.take_back(told[0], told[1])
        elif is_ask(plan, told):
            pending.extend(deeds_for(told[1:5], False, told[6]))
            pending.extend(deeds_for(told[1:5], True, told[5]))
        elif not is_right_leaf(book, plan, told, answers, is_fine):
            return False
    return True


def deeds_for(question, answer, tree):
    """What has to be done for the tree behind an answer, the last one first."""
    told = bound_of(question, answer)
    return [("take back", told), ("look", tree), ("put", told)]


def is_ask(plan, value):
    """Whether any value is a question of a tree, whatever stands behind its answers."""
    if not isinstance(value, tuple) or len(value) != 7 or value[0] != "ask":
        return False
    _, axis, one, other, most = value[:5]
    if not is_axis(axis) or not is_term_of(plan, one) or not is_term_of(plan, other):
        return False
    return one != other and is_integer(most)


def is_term_of(plan, value):
    """Whether any value is "0", or the term of a point of the plan or of its hand."""
    return isinstance(value, str) and (value == ZERO or value.removesuffix("!") in plan)


def is_right_leaf(book, plan, value, answers, is_fine):
    """Whether any value is a leaf that is right by these answers."""
    if not isinstance(value, tuple):
        return False
    if len(value) == 1 and value[0] == "fine":
        going = answers.going()
        return goes_through(going, book, plan) and is_fine(going)
    if len(value) != 3 or value[0] != "never" or not is_axis(value[1]):
        return False
    return is_right_ring(book, plan, value[1], value[2], answers)


def is_right_ring(book, plan, axis, value, answers):
    """Whether any value is a ring with a sum below 0 of the bounds of an axis as far as the going goes."""
    if not is_ring_below_zero(value):
        return False
    going = answers.going()
    goes_through(going, book, plan)
    return all([answers.has(axis, step) or step in going.bounds[axis] for step in value])

"""What can come of a plan: all ways in which it can be drawn, how far points come apart, and which wobble is safe."""

from wobblesnap.drawing import draw, is_hands, is_steady, taken
from wobblesnap.errors import NoAxis, NoPoint, TooMany
from wobblesnap.forms import is_axis, is_just
from wobblesnap.judging import all_cases, are_sure_trees, is_failing_one, is_sure_tree, some_hands, trees_or_failing
from wobblesnap.plans import GREATEST_BOUND
from wobblesnap.trees import tree_of
from wobblesnap.wishes import check_wishes


def outcomes(book, plan):
    """The ascending tuple of all (ways, hands): how points can come, and steady hands by which they do."""
    found = {}
    for going, _ in all_cases(book, plan):
        # By all hands of one case all points come alike.
        hands = some_hands(plan, going)
        found[taken(book, plan, hands)] = hands
    return tuple(sorted(found.items()))


def shows_outcomes(book, plan, value):
    """Whether any value is a right answer of outcomes."""
    told = [ways for ways, _ in outcomes(book, plan)]
    if not isinstance(value, tuple) or len(value) != len(told):
        return False
    return all([is_outcome(book, plan, ways, row) for ways, row in zip(told, value)])


def is_outcome(book, plan, ways, value):
    """Whether any value is these ways, and steady hands by which points come so."""
    if not isinstance(value, tuple) or len(value) != 2 or not is_just(value[0], ways):
        return False
    hands = value[1]
    return is_hands(plan, hands) and is_steady(book, plan, hands) and taken(book, plan, hands) == ways


def spread(book, plan, axis, one, other):
    """(low, high, first, last, tree): the least and the greatest of one less other in an axis, and what shows it."""
    check_pair(plan, axis, one, other)
    found = all_cases(book, plan)
    least, first = farthest(plan, found, axis, other, one)
    most, last = farthest(plan, found, axis, one, other)
    return -least, most, first, last, tree_of([answers for _, answers in found])


def shows_spread(book, plan, axis, one, other, value):
    """Whether any value is a right answer of spread."""
    low, high, _, _, _ = spread(book, plan, axis, one, other)
    if not isinstance(value, tuple) or len(value) != 5 or not is_just(value[:2], (low, high)):
        return False
    for hands, number in zip(value[2:4], (low, high)):
        if not is_hands(plan, hands) or not is_steady(book, plan, hands):
            return False
        numbers, _ = draw(book, plan, hands)
        if numbers.less(axis, one, other) != number:
            return False
    return is_sure_tree(book, plan, (axis, one, other, low, high), value[4])


def check_pair(plan, axis, one, other):
    """Refuse what is no axis, and what are no two points of the plan."""
    if not is_axis(axis):
        raise NoAxis(axis)
    if one not in plan:
        raise NoPoint(one)
    if other not in plan or other == one:
        raise NoPoint(other)


def farthest(plan, found, axis, one, other):
    """(most, hands): how much one less other is at the most in an axis by all cases, and hands by which it is."""
    mosts = [going.ways[axis].least(one, other) for going, _ in found]
    most = max(mosts)
    going, _ = found[mosts.index(most)]
    return most, some_hands(plan, going.branched((axis, one, other, most - 1), False))


def safest(book, plan, wishes):
    """(e, trees, number, hands): the greatest bound by which all wishes are sure, and what fails by the next one."""
    check_wishes(plan.points, wishes)
    bound = greatest_safe(book, plan, wishes)
    trees = ()
    if bound >= 0:
        trees = trees_or_failing(book, plan.by_hand(bound), wishes)[0]
    if bound == GREATEST_BOUND:
        return bound, trees
    # If there are too many cases by the next one, this raises what the document asks for.
    _, number, hands = trees_or_failing(book, plan.by_hand(bound + 1), wishes)
    return bound, trees, number, hands


def greatest_safe(book, plan, wishes):
    """The bound ahead of the first one by which some wish fails, or there are too many cases; -1 if this is 0."""
    # By a lesser bound there are no other hands: so there are no more cases, and what was sure is sure.
    low = -1
    high = GREATEST_BOUND + 1
    while high - low > 1:
        middle = (low + high) // 2
        if is_safe(book, plan.by_hand(middle), wishes):
            low = middle
        else:
            high = middle
    return low


def is_safe(book, plan, wishes):
    """Whether all wishes are sure, and there are not too many cases."""
    try:
        return trees_or_failing(book, plan, wishes)[0] is not None
    except TooMany:
        return False


def shows_safest(book, plan, wishes, value):
    """Whether any value is a right answer of safest."""
    told = safest(book, plan, wishes)
    if not isinstance(value, tuple) or len(value) != len(told) or not is_just(value[0], told[0]):
        return False
    bound = told[0]
    if bound >= 0 and not are_sure_trees(book, plan.by_hand(bound), wishes, value[1]):
        return False
    if bound < 0 and not is_just(value[1], ()):
        return False
    return bound == GREATEST_BOUND or is_failing_one(book, plan.by_hand(bound + 1), wishes, value[2], value[3])

"""Whether all steady hands keep a wish: a tree of cases tells it, or hands by which it is not kept."""

from wobblesnap.bounds import ZERO
from wobblesnap.drawing import is_hands, is_steady
from wobblesnap.errors import TooMany
from wobblesnap.forms import AXES, is_integer
from wobblesnap.going import Going, goes_on
from wobblesnap.rules import hand_of
from wobblesnap.trees import is_right_tree, tree_of
from wobblesnap.wishes import answer_of, check_wish, kept

MOST_CASES = 400


def cases(book, plan):
    """Of how many cases steady hands are."""
    return len(all_cases(book, plan))


def sure(book, plan, wish):
    """("sure", tree) if all steady hands keep the wish, otherwise ("fails", hands) with some that do not."""
    check_wish(plan.points, wish)
    return judged(plan, all_cases(book, plan), wish)


def shows_sure(book, plan, wish, value):
    """Whether any value is a right answer of sure."""
    check_wish(plan.points, wish)
    all_cases(book, plan)
    if not isinstance(value, tuple) or len(value) != 2:
        return False
    kind, told = value
    if kind == "fails":
        return are_failing(book, plan, wish, told)
    return kind == "sure" and is_sure_tree(book, plan, wish, told)


def judged(plan, found, wish):
    """What sure tells of a wish, all cases being found."""
    leaves, failing = leaves_of(found, lambda going: answer_of(going, wish))
    if failing is not None:
        return "fails", some_hands(plan, failing)
    return "sure", tree_of(leaves)


def leaves_of(found, answer):
    """(leaves, None), the answers that lead to each leaf of a tree, if by all cases the answer is yes.

    Otherwise (None, going), by all hands of which it is no. The answer of a going is None if it asked what it does not
    know.
    """
    leaves = []
    pending = found[::-1]
    while len(pending) > 0:
        going, answers = pending.pop()
        told = answer(going)
        if told is None:
            pending.extend(both_answers(going, answers))
        elif told:
            leaves.append(answers)
        else:
            return None, going
    return leaves, None


def are_failing(book, plan, wish, value):
    """Whether any value is steady hands that do not keep the wish."""
    return is_hands(plan, value) and is_steady(book, plan, value) and not kept(book, plan, wish, value)


def is_sure_tree(book, plan, wish, value):
    """Whether any value is a right tree for the wish."""
    return is_right_tree(book, plan, value, lambda going: answer_of(going, wish) is True)


def trees_or_failing(book, plan, wishes):
    """(trees, None, None) if all wishes are sure, otherwise (None, number, hands) of the first one that fails."""
    found = all_cases(book, plan)
    trees = []
    for number, wish in enumerate(wishes):
        kind, told = judged(plan, found, wish)
        if kind == "fails":
            return None, number, told
        trees.append(told)
    return tuple(trees), None, None


def are_sure_trees(book, plan, wishes, value):
    """Whether any value is a tuple of a right tree for each wish."""
    if not isinstance(value, tuple) or len(value) != len(wishes):
        return False
    return all([is_sure_tree(book, plan, wish, tree) for wish, tree in zip(wishes, value)])


def is_failing_one(book, plan, wishes, number, hands):
    """Whether any two values are the number of a wish, and steady hands that do not keep it."""
    if not is_integer(number) or not 0 <= number < len(wishes):
        return False
    return are_failing(book, plan, wishes[number], hands)


def all_cases(book, plan):
    """For each case (going, answers): all its bounds, and the (question, answer) that told it from the others."""
    found = []
    pending = [(Going(), (), 0)]
    while len(pending) > 0:
        going, answers, at = pending.pop()
        while at < len(plan) and goes_on(going, book, plan, at):
            at += 1
        if at == len(plan):
            found.append((going, answers))
        else:
            # The rules ask again what they asked of this point, and get the same answers.
            pending.extend([(twin, longer, at) for twin, longer in both_answers(going, answers)])
        # Each one that is pending leads to one case at least.
        if len(found) + len(pending) > MOST_CASES:
            raise TooMany(MOST_CASES)
    return found


def both_answers(going, answers):
    """The (going, answers) for no, and for yes, to the question at which the going stopped."""
    question = going.question
    return [(going.branched(question, answer), answers + ((question, answer),)) for answer in (False, True)]


def some_hands(plan, going):
    """Hands by which all bounds of a going are kept that went through the plan."""
    # The greatest values that bounds leave, each one for itself, keep them all together.
    return tuple([tuple([going.ways[axis].least(hand_of(name), ZERO) for axis in AXES]) for name in plan.points])

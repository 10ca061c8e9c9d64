"""Small books, plans, wishes and trees, as an even hand of cards deals them: alike in each run."""

from tests.reference import bound_by, go_by_bounds
from wobblesnap.books import Book
from wobblesnap.bounds import settled
from wobblesnap.plans import Plan

NAMES = ("a", "b", "c", "d", "e", "f")


def deal_book(dealt, words=("corner", "wall", "level", "straight", "grid")):
    """A book of some of these rules."""
    rules = dealt.sample(words, dealt.randint(1, min(3, len(words))))
    lines = ["among " + dealt.choice(("eldest", "latest"))]
    for word in rules:
        number = dealt.randint(2, 5) if word == "grid" else dealt.choice((0, 1, 1, 2, 2, 3, 5))
        lines.append(f"{word} {number}")
    return Book("\n".join(lines))


def deal_plan(dealt, many=3, hand=1, walls=2, reach=4):
    """A plan of so many points, close to each other."""
    lines = [f"hand {hand}"]
    for at in range(many):
        elders = NAMES[:at]
        x, y = dealt.randint(-reach, reach), dealt.randint(-reach, reach)
        kind = dealt.choice(("at", "by", "cross", "by")) if elders else "at"
        if kind == "at":
            line = f"point {NAMES[at]} at {x} {y}"
        elif kind == "by":
            line = f"point {NAMES[at]} by {dealt.choice(elders)} {x} {y}"
        else:
            line = f"point {NAMES[at]} cross {dealt.choice(elders)} {dealt.choice(elders)}"
        if dealt.random() < 0.3:
            line += f" within {dealt.randint(0, hand)}"
        lines.append(line)
        while at >= 1 and walls > 0 and dealt.random() < 0.5:
            lines.append("wall " + " ".join(dealt.sample(NAMES[:at + 1], 2)))
            walls -= 1
    return Plan("\n".join(lines))


def deal_wish(dealt, plan):
    """A wish of a plan of at least two points."""
    kinds = ("same", "level", "upright", "x", "y", "apart") + ("on",) * 2 * (len(plan) > 2)
    kind = dealt.choice(kinds)
    names = tuple(dealt.sample(plan.points, 3 if kind == "on" else 2))
    if kind in ("x", "y"):
        low = dealt.randint(-8, 4)
        return (kind,) + names + (low, low + dealt.randint(-1, 12))
    if kind == "apart":
        return (kind,) + names + (dealt.randint(1, 4),)
    return (kind,) + names


def deal_question(dealt, plan):
    """Any question of a tree, also a needless one."""
    terms = ["0"] + [name + mark for name in plan.points for mark in ("", "!")]
    return (dealt.choice("xy"),) + tuple(dealt.sample(terms, 2)) + (dealt.randint(-6, 6),)


def grow_tree(dealt, book, plan, wish, needless=2, answers=()):
    """A tree behind these answers, which is right if all steady hands keep the wish, with some needless questions.

    Where they do not, some leaves are ("fine",) though the wish is not kept there.
    """
    left = [needless]

    def grow(answers):
        bounds, stopped, _ = go_by_bounds(book, plan, answers, wish)
        question = stopped.question if stopped is not None else None
        if stopped is not None and question is None:
            return never_by(bounds)
        if left[0] > 0 and dealt.random() < 0.5:
            left[0] -= 1
            question = deal_question(dealt, plan)
        if question is None:
            return ("fine",)
        return ("ask",) + question + tuple(grow(answers + ((question, answer),)) for answer in (True, False))

    return grow(tuple(answers))


def never_by(bounds):
    """A leaf with a ring of the bounds of an axis."""
    for axis in "xy":
        kind, ring = settled(tuple(bounds[axis]))
        if kind == "ring":
            return "never", axis, ring
    raise AssertionError("there is no ring")


def tree_around(book, plan, wish, answers, leaf):
    """A tree in which these answers lead to the leaf, and all else is right, if all steady hands keep the wish."""
    tree = leaf
    for at in range(len(answers) - 1, -1, -1):
        question, answer = answers[at]
        other = grow_tree(None, book, plan, wish, 0, tuple(answers[:at]) + ((question, not answer),))
        tree = ("ask",) + question + ((tree, other) if answer else (other, tree))
    return tree


def parts_of(tree, path=()):
    """The (path, part) of all questions and leaves of a tree."""
    yield path, tree
    if tree[0] == "ask":
        yield from parts_of(tree[5], path + (5,))
        yield from parts_of(tree[6], path + (6,))


def with_part(tree, path, part):
    """The tree with another part in this place."""
    if not path:
        return part
    return tree[:path[0]] + (with_part(tree[path[0]], path[1:], part),) + tree[path[0] + 1:]


def answers_ahead(tree, path):
    """The (question, answer) on the way to a part."""
    answers = ()
    for step in path:
        answers += ((tree[1:5], step == 5),)
        tree = tree[step]
    return answers


def deal_change(dealt, book, plan, wish, tree):
    """The tree with one part otherwise, which may be right or not."""
    path, part = dealt.choice(list(parts_of(tree)))
    changes = ["fine", "never", "longer", "needless"]
    if part[0] == "ask":
        changes += ["axis", "terms", "number", "turned", "yes", "no"]
    if part[0] == "never":
        changes += ["axis", "ring", "ring", "ring"]
    change = dealt.choice(changes)
    if change == "fine":
        part = ("fine",)
    elif change == "never":
        part = "never", dealt.choice("xy"), deal_ring(dealt, book, plan, wish, answers_ahead(tree, path))
    elif change == "longer":
        part = part + (0,)
    elif change == "needless":
        part = ("ask",) + deal_question(dealt, plan) + (part, part)
    elif change == "axis":
        part = part[:1] + ("y" if part[1] == "x" else "x",) + part[2:]
    elif change == "terms":
        part = part[:2] + deal_question(dealt, plan)[1:3] + part[4:]
    elif change == "number":
        part = part[:4] + (part[4] + dealt.choice((-1, 1)),) + part[5:]
    elif change == "turned":
        part = part[:5] + (part[6], part[5])
    elif change == "yes":
        part = part[5]
    elif change == "no":
        part = part[6]
    elif change == "ring":
        part = part[:2] + (change_ring(dealt, part[2]),)
    return with_part(tree, path, part)


def deal_ring(dealt, book, plan, wish, answers):
    """A ring of bounds that may be put ahead of where the going stops, or behind it, or not at all."""
    bounds, _, _ = go_by_bounds(book, plan, answers, wish)
    kind, ring = settled(tuple(bounds[dealt.choice("xy")]))
    if kind == "ring":
        return ring
    question = deal_question(dealt, plan)
    return (bound_by(question, True), bound_by(question, False))


def change_ring(dealt, ring):
    """A ring with a step otherwise, out, twice, or begun elsewhere, or gone around twice."""
    if not ring:
        return (ring,)
    at = dealt.randrange(len(ring))
    one, other, most = ring[at]
    return dealt.choice((
        ring[:at] + ring[at + 1:], ring[:at] + ring[at:at + 1] + ring[at:], ring[at:] + ring[:at], ring + ring,
        ring[::-1], ring[:at] + ((one, other, most - 1),) + ring[at + 1:], (),
        ring[:at] + ((one, other, most + 1),) + ring[at + 1:], ring[:at] + ((other, one, most),) + ring[at + 1:],
    ))

"""Section 13 once more, in other words than those of the program: by trying all hands in each bay, one by one."""

import itertools

from tests.reference import draw_click, is_kept_by, middle_of
from wobblesnap.books import Book
from wobblesnap.fences import Bay

MOST = 300


def lines_of(bay):
    """(starts, lines, goes) of a bay's text; lines are ("point", name, aim, bound) or ("wall", one, other)."""
    starts, lines, goes = [], [], ()
    hand = 0
    for line in bay.text.split("\n"):
        words = [int(word) if word.lstrip("-").isdigit() else word for word in line.split(" ")]
        if words[0] == "hand":
            hand = words[1]
        elif words[0] == "from":
            starts.append((words[1], (words[2], words[3])))
        elif words[0] == "wall":
            lines.append(tuple(words))
        elif words[0] == "goes":
            goes = tuple(words[1:])
        else:
            many = {"by": 6, "cross": 5}[words[2]]
            bound = words[many + 1] if len(words) > many else hand
            lines.append(("point", words[1], tuple(words[2:many]), bound))
    return starts, lines, goes


def draw_bay(book, bay, standing, hands):
    """(places by name, the standing behind, whether the hands are steady)."""
    starts, lines, goes = lines_of(bay)
    places = dict(zip([name for name, _ in starts], [(0, 0), standing]))
    walls, steady, left = [], True, list(hands)
    for line in lines:
        if line[0] == "wall":
            walls.append(line[1:])
            continue
        hand = left.pop(0)
        middle = middle_of(line[2], places)
        steady = steady and max(abs(hand[0] - middle[0]), abs(hand[1] - middle[1])) <= line[3]
        places[line[1]], _ = draw_click(book, hand, dict(places), walls)
    return places, next_standing(places, goes), steady


def next_standing(places, goes):
    """The standing of the next bay."""
    if len(goes) == 1:
        return ()
    first, second = places[goes[0]], places[goes[1]]
    return (second[0] - first[0], second[1] - first[1])


def all_hands(book, bay, standing):
    """Each (hands, places by name, the standing behind) of steady hands."""
    starts, lines, goes = lines_of(bay)
    found = [((), dict(zip([name for name, _ in starts], [(0, 0), standing])))]
    walls = []
    for line in lines:
        if line[0] == "wall":
            walls.append(line[1:])
            continue
        longer = []
        for hands, places in found:
            middle = middle_of(line[2], places)
            for off in itertools.product(range(-line[3], line[3] + 1), repeat=2):
                hand = (middle[0] + off[0], middle[1] + off[1])
                place, _ = draw_click(book, hand, dict(places), list(walls))
                longer.append((hands + (hand,), {**places, line[1]: place}))
        found = longer
    return [(hands, places, next_standing(places, goes)) for hands, places in found]


def fence_by_list(book, bay, wish):
    """("sure", standings that rows come to), ("fails", how many bays), or ("too many",)."""
    starts, _, _ = lines_of(bay)
    come = [starts[1][1] if len(starts) == 2 else ()]
    new = list(come)
    for many in itertools.count(1):
        if len(come) > MOST:
            return ("too many",)
        told = [row for standing in new for row in all_hands(book, bay, standing)]
        if not all(is_kept_by(places, wish) for _, places, _ in told):
            return "fails", many
        new = sorted({standing for _, _, standing in told} - set(come))
        if not new:
            return "sure", come
        come += new


def is_right_rows(book, bay, wish, many, value):
    """Whether a value is rows of so many bays, the last one of which fails."""
    if type(value) is not tuple or len(value) != many:
        return False
    starts, lines, _ = lines_of(bay)
    standing = starts[1][1] if len(starts) == 2 else ()
    points = [line for line in lines if line[0] == "point"]
    for hands in value:
        if type(hands) is not tuple or len(hands) != len(points):
            return False
        for hand in hands:
            if type(hand) is not tuple or [type(number) for number in hand] != [int, int]:
                return False
        places, standing, steady = draw_bay(book, bay, standing, hands)
        if not steady:
            return False
    return not is_kept_by(places, wish)


def is_right_standings(book, bay, wish, value):
    """Whether a value is standings behind each of which all goes on among them."""
    starts, _, _ = lines_of(bay)
    many = 2 if len(starts) == 2 else 0
    if type(value) is not tuple:
        return False
    for standing in value:
        if type(standing) is not tuple or [type(number) for number in standing] != [int] * many:
            return False
    if list(value) != sorted(set(value)) or (starts[1][1] if many else ()) not in value:
        return False
    return all(
        is_kept_by(places, wish) and behind in value
        for standing in value for _, places, behind in all_hands(book, bay, standing)
    )


def is_right_fence(book, bay, wish, told, value):
    """Whether a value is right for fence, told being what the list tells."""
    if type(value) is not tuple or len(value) != 2 or type(value[0]) is not str or value[0] != told[0]:
        return False
    if told[0] == "fails":
        return is_right_rows(book, bay, wish, told[1], value[1])
    return is_right_standings(book, bay, wish, value[1])


def deal_bay(dealt, hand=1):
    """A bay whose points are close to each other."""
    lines = [f"hand {dealt.randint(0, hand)}", "from a 0 0"]
    names = ["a"]
    near = lambda: f"{dealt.choice((0, 0, 1, -1, 3, 4, 6))} {dealt.choice((0, 0, 1, -1, 3, 4, 6))}"
    if dealt.random() < 0.7:
        lines.append("from b " + near())
        names.append("b")
    many, walls = dealt.choice((1, 2, 2)), dealt.randint(0, 2)
    starts = len(names)
    for name in "cd"[:many]:
        while walls and len(names) > 1 and dealt.random() < 0.6:
            lines.append("wall " + " ".join(dealt.sample(names, 2)))
            walls -= 1
        line = f"point {name} by {dealt.choice(names)} {near()}"
        if dealt.random() < 0.4:
            line = f"point {name} cross {dealt.choice(names)} {dealt.choice(names)}"
        if dealt.random() < 0.5:
            line += f" within {dealt.randint(0, hand)}"
        lines.append(line)
        names.append(name)
    return Bay("\n".join(lines + ["goes " + " ".join(dealt.sample(names, starts))]))


def deal_bay_wish(dealt, bay):
    """A wish of a bay's points."""
    names = [name for name, _ in bay.starts] + list(bay.points)
    kind = dealt.choice(["same", "level", "upright", "x", "y", "apart"] + ["on"] * (len(names) > 2))
    told = tuple(dealt.sample(names, 3 if kind == "on" else 2))
    if kind in ("x", "y"):
        low = dealt.randint(-9, 2)
        return (kind,) + told + (low, low + dealt.randint(4, 16))
    return (kind,) + told + ((dealt.randint(1, 3),) if kind == "apart" else ())


def deal_fence_book(dealt):
    """A book without a grid."""
    lines = ["among " + dealt.choice(("eldest", "latest"))]
    for word in dealt.sample(("corner", "wall", "level", "straight"), dealt.randint(1, 3)):
        lines.append(f"{word} {dealt.choice((0, 1, 1, 2, 3))}")
    return Book("\n".join(lines))

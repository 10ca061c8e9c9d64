"""Sections 5 to 13 of the document once more, in other words than those of the program: plainly, and slowly.

Plans are read from their texts again. Hands are tried out one by one; and for each question that a going by bounds
asks, all bounds are gone over anew.
"""

import itertools

from wobblesnap.books import Book


class Stopped(Exception):
    """A going by bounds stops, at a question (axis, one, other, n) or by a ring."""

    def __init__(self, question):
        super().__init__(question)
        self.question = question


def lines_of(plan):
    """The lines of a plan behind the first one: ("point", name, aim, bound) or ("wall", one, other)."""
    first, *rest = plan.text.split("\n")
    hand = int(first.split(" ")[1])
    found = []
    for line in rest:
        words = line.split(" ")
        if words[0] == "wall":
            found.append(tuple(words))
            continue
        bound = hand
        if len(words) > 6 and words[-2] == "within":
            bound = int(words[-1])
            words = words[:-2]
        aim = tuple(int(word) if word.lstrip("-").isdigit() else word for word in words[2:])
        found.append(("point", words[1], aim, bound))
    return found


def rules_of(book):
    """The (word, number) of the rules of a book."""
    words = [line.split(" ") for line in book.text.split("\n")[1:]]
    return [(word, int(number)) for word, number in words]


def in_sequence(book, things):
    """Things as they were drawn, or the other way about."""
    things = list(things)
    return things if book.text.startswith("among eldest\n") else things[::-1]


# Hands, by what section 5 tells of coordinates


def fits_onto(place, one, other, reach):
    """0 or 1 for the coordinate that a wall takes from this place, or None."""
    for across in (1, 0):
        along = 1 - across
        low, high = sorted((one[along], other[along]))
        if one[across] == other[across] and abs(place[across] - one[across]) <= reach and low < place[along] < high:
            return across
    return None


def draw_click(book, hand, places, walls):
    """(place, (way for x, way for y)) of one click, behind these drawn points, a dict, and these walls."""
    place = list(hand)
    ways = [None, None]
    for word, number in rules_of(book):
        elders = in_sequence(book, places)
        if word == "corner" and ways == [None, None]:
            near = [name for name in elders if all(abs(hand[at] - places[name][at]) <= number for at in (0, 1))]
            if near:
                place = list(places[near[0]])
                ways = [("corner", near[0])] * 2
        if word == "wall" and ways == [None, None]:
            fitting = [(one, other, fits_onto(hand, places[one], places[other], number))
                       for one, other in in_sequence(book, walls)]
            fitting = [row for row in fitting if row[2] is not None]
            if fitting:
                one, other, across = fitting[0]
                place[across] = places[one][across]
                ways[across] = ("wall", one, other)
        if word == "straight":
            elders = list(places)[-1:]
        for at in (0, 1):
            if word in ("level", "straight") and ways[at] is None:
                near = [name for name in elders if abs(hand[at] - places[name][at]) <= number]
                if near:
                    place[at] = places[near[0]][at]
                    ways[at] = (word, near[0])
            if word == "grid" and ways[at] is None:
                # The greater ones come first: so the greater one of two that are as near is found.
                multiples = [number * (hand[at] // number + more) for more in (1, 0)]
                place[at] = min(multiples, key=lambda multiple: abs(multiple - hand[at]))
                ways[at] = ("grid",)
    return tuple(place), tuple(way or ("free",) for way in ways)


def draw_all(book, plan, hands):
    """(drawn, taken, steady) of some hands."""
    places, ways, walls, steady = {}, [], [], True
    left = list(hands)
    for line in lines_of(plan):
        if line[0] == "wall":
            walls.append(line[1:])
            continue
        hand = left.pop(0)
        middle = middle_of(line[2], places)
        steady = steady and all(abs(hand[at] - middle[at]) <= line[3] for at in (0, 1))
        places[line[1]], came = draw_click(book, hand, dict(places), walls)
        ways.append(came)
    return tuple(places.values()), tuple(ways), steady


def middle_of(aim, places):
    """Where a click is aimed."""
    if aim[0] == "at":
        return aim[1:]
    if aim[0] == "by":
        return places[aim[1]][0] + aim[2], places[aim[1]][1] + aim[3]
    return places[aim[1]][0], places[aim[2]][1]


def all_steady(book, plan):
    """Each (hands, drawn) of steady hands."""
    found = [((), {}, [])]
    for line in lines_of(plan):
        if line[0] == "wall":
            found = [(hands, places, walls + [line[1:]]) for hands, places, walls in found]
            continue
        longer = []
        for hands, places, walls in found:
            middle = middle_of(line[2], places)
            for off in itertools.product(range(-line[3], line[3] + 1), repeat=2):
                hand = (middle[0] + off[0], middle[1] + off[1])
                place, _ = draw_click(book, hand, places, walls)
                longer.append((hands + (hand,), {**places, line[1]: place}, walls))
        found = longer
    return [(hands, tuple(places.values())) for hands, places, _ in found]


def is_kept(plan, wish, drawn):
    """Whether drawn points keep a wish, by what section 8 tells of their places."""
    return is_kept_by(dict(zip(plan.points, drawn)), wish)


def is_kept_by(places, wish):
    """Whether points at these places, a dict, keep a wish."""
    kind = wish[0]
    one, other = places[wish[1]], places[wish[2]]
    if kind == "same":
        return one == other
    if kind == "level":
        return one[1] == other[1]
    if kind == "upright":
        return one[0] == other[0]
    if kind == "on":
        return fits_onto(one, other, places[wish[3]], 0) is not None
    if kind == "apart":
        return max(abs(one[0] - other[0]), abs(one[1] - other[1])) >= wish[3]
    at = "xy".index(kind)
    return wish[3] <= one[at] - other[at] <= wish[4]


# Comparisons, in the sequence of section 9


def near(ask, axis, one, other, reach):
    return ask(axis, one, other, reach) and ask(axis, other, one, reach)


def onto(ask, term, one, other, reach, across, along):
    return near(ask, across, one, other, 0) and near(ask, across, term, one, reach) and (
        ask(along, one, term, -1) and ask(along, term, other, -1)
        or ask(along, other, term, -1) and ask(along, term, one, -1)
    )


def compare_click(asker, book, name, elders, walls):
    """Go through the rules for one click, whoever answers."""
    hand = name + "!"
    free = ["x", "y"]

    def take(axis, term, number=0):
        free.remove(axis)
        asker.put(axis, name, term, number)
        asker.put(axis, term, name, -number)

    for word, number in rules_of(book):
        if word == "corner" and len(free) == 2:
            for elder in in_sequence(book, elders):
                if near(asker.ask, "x", hand, elder, number) and near(asker.ask, "y", hand, elder, number):
                    take("x", elder)
                    take("y", elder)
                    break
        elif word == "wall" and len(free) == 2:
            for one, other in in_sequence(book, walls):
                if onto(asker.ask, hand, one, other, number, "y", "x"):
                    take("y", one)
                    break
                if onto(asker.ask, hand, one, other, number, "x", "y"):
                    take("x", one)
                    break
        elif word in ("level", "straight"):
            for axis in list(free):
                for elder in in_sequence(book, elders) if word == "level" else list(elders)[-1:]:
                    if near(asker.ask, axis, hand, elder, number):
                        take(axis, elder)
                        break
        elif word == "grid":
            for axis in list(free):
                take(axis, "0", asker.cell(axis, hand, number) * number)
    for axis in list(free):
        take(axis, hand)


def ask_wish(ask, wish):
    """Whether a wish is yes, whoever answers."""
    kind, one, other = wish[:3]
    if kind == "same":
        return near(ask, "x", one, other, 0) and near(ask, "y", one, other, 0)
    if kind == "level":
        return near(ask, "y", one, other, 0)
    if kind == "upright":
        return near(ask, "x", one, other, 0)
    if kind == "on":
        return onto(ask, one, other, wish[3], 0, "y", "x") or onto(ask, one, other, wish[3], 0, "x", "y")
    if kind == "apart":
        return not (near(ask, "x", one, other, wish[3] - 1) and near(ask, "y", one, other, wish[3] - 1))
    return ask(kind, one, other, wish[4]) and ask(kind, other, one, -wish[3])


class Watcher:
    """Answers by what was drawn, and writes all answers down."""

    def __init__(self, plan, hands, drawn):
        self.answers = []
        self.worth = {}
        for at, axis in enumerate("xy"):
            self.worth[axis] = {"0": 0}
            for name, hand, place in zip(plan.points, hands, drawn):
                self.worth[axis].update({name + "!": hand[at], name: place[at]})

    def ask(self, axis, one, other, most):
        self.answers.append(self.worth[axis][one] - self.worth[axis][other] <= most)
        return self.answers[-1]

    def cell(self, axis, term, step):
        self.answers.append((self.worth[axis][term] + step // 2) // step)
        return self.answers[-1]

    def put(self, axis, one, other, most):
        if self.worth[axis][one] - self.worth[axis][other] > most:
            raise AssertionError("the comparisons lead elsewhere than what is drawn")


def answers_by(book, plan, hands, drawn):
    """What all comparisons of the rules, and all multiples, are by these hands."""
    watcher = Watcher(plan, hands, drawn)
    elders, walls = [], []
    for line in lines_of(plan):
        if line[0] == "wall":
            walls.append(line[1:])
        else:
            compare_click(watcher, book, line[1], elders, walls)
            elders.append(line[1])
    return tuple(watcher.answers)


# Trees


def least_sum(bounds, one, other):
    """The least sum of a way with less bounds than there are terms; None if there is none."""
    sums = {other: 0}
    for _ in range(len(bounds)):
        before = dict(sums)
        for first, second, most in bounds:
            if second in sums and sums[second] + most < sums.get(first, sums[second] + most + 1):
                sums[first] = sums[second] + most
        if sums == before:
            break
    return sums.get(one)


def has_ring(bounds):
    """Whether a ring of bounds has a sum below 0."""
    worth = {term: 0 for bound in bounds for term in bound[:2]}
    for _ in range(len(worth) + 1):
        before = dict(worth)
        for one, other, most in bounds:
            worth[one] = min(worth[one], worth[other] + most)
        if worth == before:
            return False
    return True


class Told:
    """Answers by bounds, all of which are written down."""

    def __init__(self):
        self.bounds = {"x": [], "y": []}

    def ask(self, axis, one, other, most):
        there = least_sum(self.bounds[axis], one, other)
        if there is not None and there <= most:
            return True
        back = least_sum(self.bounds[axis], other, one)
        if back is not None and back <= -most - 1:
            return False
        raise Stopped((axis, one, other, most))

    def cell(self, axis, term, step):
        low = -least_sum(self.bounds[axis], "0", term)
        high = least_sum(self.bounds[axis], term, "0")
        for number in range(low // step - 1, high // step + 2):
            if number * step - step // 2 <= low and high <= number * step + step - step // 2 - 1:
                return number
        number = (low + step // 2) // step
        raise Stopped((axis, term, "0", number * step + step - step // 2 - 1))

    def put(self, axis, one, other, most):
        self.bounds[axis].append((one, other, most))

    def look_for_rings(self):
        if has_ring(self.bounds["x"]) or has_ring(self.bounds["y"]):
            raise Stopped(None)


def bound_by(question, answer):
    """The bound that an answer to (axis, one, other, n) means."""
    _, one, other, most = question
    return (one, other, most) if answer else (other, one, -most - 1)


def go_by_bounds(book, plan, answers, wish):
    """(bounds by axis, what it stopped by, None or whether the wish is yes), by answers (question, answer).

    In place of a wish there may be another book: whether it draws all points alike.
    """
    told = Told()
    for question, answer in answers:
        told.put(question[0], *bound_by(question, answer))
    elders, walls = [], []
    try:
        told.look_for_rings()
        for line in lines_of(plan):
            if line[0] == "wall":
                walls.append(line[1:])
                continue
            _, name, aim, bound = line
            for at, axis in enumerate("xy"):
                term, number = "0", aim[at - 2]
                if aim[0] == "by":
                    term = aim[1]
                if aim[0] == "cross":
                    term, number = aim[1 + at], 0
                told.put(axis, name + "!", term, number + bound)
                told.put(axis, term, name + "!", bound - number)
            told.look_for_rings()
            compare_click(told, book, name, elders, walls)
            told.look_for_rings()
            elders.append(name)
        if isinstance(wish, Book):
            return told.bounds, None, compare_books(told, wish, plan)
        return told.bounds, None, ask_wish(told.ask, wish)
    except Stopped as stopped:
        return told.bounds, stopped, None


class Parted(Exception):
    """Another book takes something else."""


class Fixed(Told):
    """Answers by bounds to which nothing is put: what is put has to be told by them."""

    def __init__(self, bounds):
        super().__init__()
        self.bounds = bounds

    def put(self, axis, one, other, most):
        if not self.ask(axis, one, other, most):
            raise Parted()


def compare_books(told, other, plan):
    """Whether another book draws all points alike, by all bounds of a going."""
    elders, walls = [], []
    try:
        for line in lines_of(plan):
            if line[0] == "wall":
                walls.append(line[1:])
            else:
                compare_click(Fixed(told.bounds), other, line[1], elders, walls)
                elders.append(line[1])
        return True
    except Parted:
        return False


def is_right(book, plan, wish, tree, answers=()):
    """Whether a small tree is right; wish may be another book, as in go_by_bounds."""
    if tree == ("fine",):
        return go_by_bounds(book, plan, answers, wish)[2] is True
    if type(tree) is not tuple or not tree:
        return False
    if tree[0] == "never" and len(tree) == 3:
        return is_right_never(go_by_bounds(book, plan, answers, wish)[0], tree)
    if tree[0] != "ask" or len(tree) != 7:
        return False
    _, axis, one, other, most, yes, no = tree
    terms = ["0"] + [name + mark for name in plan.points for mark in ("", "!")]
    if axis not in ("x", "y") or one not in terms or other not in terms or one == other or type(most) is not int:
        return False
    question = (axis, one, other, most)
    return (is_right(book, plan, wish, yes, answers + ((question, True),))
            and is_right(book, plan, wish, no, answers + ((question, False),)))


def is_right_never(bounds, leaf):
    """Whether a leaf tells a ring with a sum below 0 of the bounds of its axis."""
    _, axis, ring = leaf
    if axis not in ("x", "y") or type(ring) is not tuple or not ring:
        return False
    for step in ring:
        if type(step) is not tuple or [type(part) for part in step] != [str, str, int] or step not in bounds[axis]:
            return False
    led = all(step[1] == behind[0] for step, behind in zip(ring, ring[1:] + ring[:1]))
    return led and sum(step[2] for step in ring) < 0

"""Books of rules: in which sequence, and how near, a click is helped."""

from wobblesnap.errors import BadBook, NoRule
from wobblesnap.forms import number_in

LEAST = {"corner": 0, "wall": 0, "level": 0, "straight": 0, "grid": 2}
MOST = 99


class Book:
    """One to five rules, and in which sequence elder points and walls are looked at."""

    def __init__(self, text):
        if not isinstance(text, str):
            raise BadBook(0)
        lines = text.split("\n")
        among = read_among(lines[0])
        if among is None:
            raise BadBook(1)
        rules = read_rules(lines[1:], 2)
        if not rules:
            raise BadBook(2)
        self.text = text
        self.among = among
        self.rules = tuple(rules)

    def __eq__(self, other):
        return isinstance(other, Book) and self.text == other.text

    def __len__(self):
        return len(self.rules)

    def __contains__(self, value):
        return isinstance(value, str) and value in [rule[0] for rule in self.rules]

    def __getitem__(self, word):
        for known, number in self.rules:
            if word == known:
                return number
        raise NoRule(word)

    def __iter__(self):
        raise TypeError("a book cannot be gone over")


def read_among(line):
    """The word "eldest" or "latest" of a line, or None if it is no such line."""
    words = line.split(" ")
    if len(words) != 2 or words[0] != "among" or words[1] not in ("eldest", "latest"):
        return None
    return words[1]


def read_rules(lines, first):
    """The list of (word, number) of the lines, the first one of which has this number in its text."""
    rules = []
    # There are five words, none of which may come twice: so no sixth line is ever taken.
    for number, line in enumerate(lines, first):
        rule = read_rule(line)
        if rule is None or rule[0] in [elder[0] for elder in rules]:
            raise BadBook(number)
        rules.append(rule)
    return rules


def read_rule(line):
    """The (word, number) of a line, or None if it is no rule."""
    words = line.split(" ")
    if len(words) != 2 or words[0] not in LEAST:
        return None
    number = number_in(words[1], LEAST[words[0]], MOST)
    if number is None:
        return None
    return words[0], number

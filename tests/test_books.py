"""Section 5: the text of a book, and class Book."""

import itertools
import unittest

from tests.odd import RefusingTestCase, odd_but, odd_values
from wobblesnap.books import Book
from wobblesnap.errors import BadBook, NoRule

WORDS = ("corner", "wall", "level", "straight", "grid")
ALL = "among latest\ngrid 10\nstraight 4\nlevel 3\nwall 2\ncorner 1"


class RightTexts(unittest.TestCase):

    def test_the_book_of_section_7(self):
        book = Book("among eldest\ncorner 5\nlevel 3")
        self.assertEqual(book.text, "among eldest\ncorner 5\nlevel 3")
        self.assertEqual(book.among, "eldest")
        self.assertEqual(book.rules, (("corner", 5), ("level", 3)))

    def test_a_text_by_name(self):
        self.assertEqual(Book(text="among latest\nlevel 1").rules, (("level", 1),))

    def test_both_sequences_among(self):
        for among in ("eldest", "latest"):
            with self.subTest(among):
                self.assertEqual(Book(f"among {among}\nlevel 3").among, among)

    def test_each_word_with_each_number(self):
        for word in WORDS:
            for number in range(2 if word == "grid" else 0, 100):
                with self.subTest(word=word, number=number):
                    text = f"among eldest\n{word} {number}"
                    book = Book(text)
                    self.assertEqual(book.text, text)
                    self.assertEqual(book.rules, ((word, number),))
                    self.assertIs(type(book.rules[0][1]), int)
                    self.assertEqual(book[word], number)

    def test_one_to_five_rules_in_each_sequence(self):
        for many in range(1, 6):
            for words in itertools.permutations(WORDS, many):
                rules = tuple((word, 10 + at) for at, word in enumerate(words))
                text = "\n".join(["among latest"] + [f"{word} {number}" for word, number in rules])
                with self.subTest(text):
                    book = Book(text)
                    self.assertEqual((book.text, book.among, book.rules), (text, "latest", rules))
                    self.assertIs(type(book.rules), tuple)
                    self.assertEqual(len(book), many)


class WrongTexts(RefusingTestCase):

    def bad(self, number, text):
        with self.subTest(text):
            self.refuses(BadBook, number, Book, text)
            self.refuses(BadBook, number, Book, text=text)

    def test_no_string(self):
        for value in odd_but(str):
            self.bad(0, value)
        for value in (["among eldest", "level 3"], ("among eldest\nlevel 3",), {"among eldest\nlevel 3": 1}):
            self.bad(0, value)
        self.bad(0, Book("among eldest\nlevel 3"))

    def test_odd_strings(self):
        for value in odd_values():
            if isinstance(value, str):
                self.bad(1, value)

    def test_a_line_is_missing_at_the_end(self):
        self.bad(2, "among eldest")
        self.bad(2, "among latest")

    def test_the_first_line(self):
        for line in (
            "", " ", "among", "among ", "eldest", "latest", "among oldest", "among Eldest", "Among eldest",
            "among  eldest", " among eldest", "among eldest ", "among eldest latest", "among eldest,", "amongeldest",
            "among\teldest", "among all", "among 1", "corner 5", "level 3", "grid 2", "eldest among", "among eldes",
        ):
            self.bad(1, line)
            self.bad(1, line + "\nlevel 3")
            self.bad(1, line + "\nnothing")

    def test_among_stands_once_and_first(self):
        self.bad(2, "among eldest\namong eldest\nlevel 3")
        self.bad(2, "among eldest\namong latest\nlevel 3")
        self.bad(3, "among eldest\nlevel 3\namong eldest")
        self.bad(1, "level 3\namong eldest")

    def test_wrong_lines_of_rules(self):
        for line in (
            "", " ", "corner", "corner ", " corner 5", "corner 5 ", "corner  5", "corner 5 5", "corner5", "Corner 5",
            "corner five", "corner -1", "corner -0", "corner +5", "corner 05", "corner 00", "corner 007", "corner 5.0",
            "corner 5,", "corner 0x5", "corner 1_0", "corner 100", "corner 999", "corner 1000000000", "corner\t5",
            "corner 12345678901234567890", "corner " + "0" * 3000, "corner " + "9" * 3900, "5 corner", "5", "corners 5",
            "wall 100", "wall -1", "wall 00", "wall", "level 100", "level 01", "level -3", "level x", "straight 100",
            "straight 099", "straight", "grid 0", "grid 1", "grid 100", "grid -2", "grid 02", "grid", "grid 2 2",
            "grid  2", "snap 5", "among 5", "point 5", "hand 3", "corner 1e1", "corner 5\r", "corner !",
            "corner 5 level",
        ):
            self.bad(2, "among eldest\n" + line)
            self.bad(2, "among eldest\n" + line + "\nlevel 3")
            self.bad(3, "among eldest\nlevel 3\n" + line)

    def test_a_rule_in_the_first_line(self):
        self.bad(1, "corner 5\nlevel 3")

    def test_empty_lines_and_a_line_feed_at_the_end(self):
        self.bad(2, "among eldest\n")
        self.bad(2, "among eldest\n\nlevel 3")
        self.bad(3, "among eldest\nlevel 3\n")
        self.bad(3, "among eldest\nlevel 3\n\n")
        self.bad(3, "among eldest\nlevel 3\n\ncorner 2")
        self.bad(1, "\namong eldest\nlevel 3")
        self.bad(1, "\n")
        self.bad(7, ALL + "\n")

    def test_a_word_twice(self):
        for word in WORDS:
            self.bad(3, f"among eldest\n{word} 5\n{word} 5")
            self.bad(3, f"among eldest\n{word} 5\n{word} 6\nnothing")
        self.bad(4, "among eldest\ncorner 5\nlevel 3\ncorner 5")
        self.bad(6, "among eldest\ncorner 5\nwall 2\nlevel 3\nstraight 4\nwall 3\ngrid 5")

    def test_six_rules(self):
        for word in WORDS:
            self.bad(7, f"{ALL}\n{word} 9")
        self.bad(7, ALL + "\nsnap 5")
        self.bad(7, ALL + "\n" + ALL)

    def test_the_first_one_of_several_wrong_lines(self):
        self.bad(1, "amid eldest\nsnap 5\ngrid 1")
        self.bad(2, "among eldest\nsnap 5\ngrid 1")
        self.bad(3, "among eldest\nlevel 3\ngrid 1\nlevel 3")
        self.bad(4, "among eldest\nlevel 3\ngrid 2\nlevel 3\ngrid 1")


class Asked(RefusingTestCase):

    def setUp(self):
        self.book = Book(ALL)
        self.small = Book("among eldest\nlevel 0")

    def test_a_number_by_its_word(self):
        self.assertEqual([self.book[word] for word in WORDS], [1, 2, 3, 4, 10])
        self.assertEqual(self.small["level"], 0)

    def test_no_rule(self):
        for value in odd_values():
            with self.subTest(value=value):
                self.refuses(NoRule, value, lambda: self.small[value])
        for word in ("corner", "among", "eldest", "latest", "level 0", "Level", "level ", "lev", "", "10"):
            with self.subTest(word):
                self.refuses(NoRule, word, lambda: self.small[word])
        for value in (["level"], ("level",), {"level": 0}, ("level", 0), ["level", 0]):
            self.refuses(NoRule, value, lambda: self.small[value])

    def test_how_many(self):
        self.assertEqual([len(self.book), len(self.small)], [5, 1])

    def test_in(self):
        for word in WORDS:
            self.assertIs(word in self.book, True)
            self.assertIs(word in self.small, word == "level")
            self.assertIs(word not in self.small, word != "level")

    def test_not_in(self):
        for value in odd_values() + ["among", "eldest", "latest", ALL, "leve", "levels", "Level", 0, 10, ("level", 0),
                                     ["level"], ("level",), {"level": 0}, self.small]:
            with self.subTest(value=value):
                self.assertIs(value in self.small, False)
                self.assertIs(value not in self.small, True)


class Alike(unittest.TestCase):

    def test_equal_by_text(self):
        self.assertIs(Book(ALL) == Book("".join(list(ALL))), True)
        self.assertIs(Book(ALL) != Book("".join(list(ALL))), False)
        book = Book(ALL)
        self.assertIs(book == book, True)

    def test_unequal_by_text(self):
        texts = (ALL, "among eldest\nlevel 3", "among latest\nlevel 3", "among eldest\nlevel 4",
                 "among eldest\ncorner 3", "among eldest\nlevel 3\ncorner 3", "among eldest\ncorner 3\nlevel 3")
        for one, other in itertools.permutations(texts, 2):
            self.assertIs(Book(one) == Book(other), False)
            self.assertIs(Book(one) != Book(other), True)

    def test_equal_to_nothing_else(self):
        book = Book("among latest\nlevel 3")
        parts = [book.text, book.rules, book.among, (book,), [book], {"text": book.text}, len(book)]
        for value in odd_values() + parts:
            with self.subTest(value=value):
                self.assertIs(book == value, False)
                self.assertIs(value == book, False)
                self.assertIs(book != value, True)
                self.assertIs(value != book, True)


class OtherOperators(unittest.TestCase):

    def test_they_raise_type_error(self):
        for call in (
            lambda book: book + book, lambda book: book - 1, lambda book: 2 * book, lambda book: book // book,
            lambda book: book % 2, lambda book: book ** 2, lambda book: book & book, lambda book: book | book,
            lambda book: book ^ book, lambda book: book << 1, lambda book: book >> 1, lambda book: -book,
            lambda book: +book, lambda book: ~book, lambda book: abs(book), lambda book: book < book,
            lambda book: book <= book, lambda book: book > book, lambda book: book >= book, lambda book: book < 1,
            lambda book: "a" > book, lambda book: () + book, lambda book: "a" + book, lambda book: list(book),
            lambda book: [word for word in book], lambda book: iter(book), lambda book: tuple(book),
        ):
            with self.assertRaises(TypeError):
                call(Book(ALL))

    def test_nothing_can_be_put_in_or_taken_out(self):
        book = Book(ALL)
        with self.assertRaises(TypeError):
            book["level"] = 4
        with self.assertRaises(TypeError):
            del book["level"]
        with self.assertRaises(TypeError):
            book += book
        self.assertEqual((book.text, book["level"]), (ALL, 3))

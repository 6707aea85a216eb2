"""Section 4: which texts are books, and the number that BadBook keeps."""

import unittest

from opengates.books import Book
from opengates.errors import BadBook
from tests.helpers import expect, not_strings

PRIMES = [n for n in range(2, 98) if all(n % k for k in range(2, n))]
TOP = 10 ** 12
# Not as Python writes integers, whatever the bounds are.
ODD_WORDS = ["", "-", "+", "-0", "+0", "00", "01", "+1", "--1", "-01", "1-", "1.", "1.0", "1e0", "1_0", "0x1",
             "1/1", "one", "a", "1a", "a1", "1,", "'1'", "*", "True", "None", "(1)"]


def text(by=0, marks=("mark a 1",), kinds=("kind k 1",)):
    return "\n".join([f"book {by}", *marks, *kinds])


class BookTexts(unittest.TestCase):
    def taken(self, written):
        book = Book(written)
        self.assertEqual(book.text, written)
        return book

    def bad(self, number, written):
        expect(self, BadBook, number, Book, written)

    def test_no_string(self):
        for value in not_strings():
            expect(self, BadBook, 0, Book, value)

    def test_by_is_nought_or_a_prime_to_97(self):
        for by in range(-5, 300):
            if by == 0 or by in PRIMES:
                self.assertEqual(self.taken(text(by)).by, by)
            else:
                self.bad(1, text(by))
        for by in (10 ** 12, -97, 10 ** 999, "9" * 10000):
            self.bad(1, text(by))

    def test_first_lines_that_are_none(self):
        for first in ("", "book", "book ", "book  0", " book 0", "book 0 ", "book 0 0", "Book 0", "books 0",
                      "0", "0 book", "script", "mark a 1", "book0"):
            self.bad(1, first)
            self.bad(1, first + "\nmark a 1\nkind k 1")
        for word in ODD_WORDS + ["02", "-2", "+2", "2.0", "-0"]:
            self.bad(1, text(word))

    def test_missing_lines(self):
        self.bad(1, "")
        self.bad(1, "\n")
        self.bad(1, "\nbook 0\nmark a 1\nkind k 1")
        self.bad(2, "book 0")
        self.bad(2, "book 0\n")
        self.bad(3, "book 0\nmark a 1")
        self.bad(3, "book 0\nmark a 1\n")
        self.bad(6, text(0, ("mark a 1", "mark b 1", "mark c 1", "mark d 1"), ()))

    def test_line_feed_at_the_end(self):
        self.bad(4, text() + "\n")
        self.bad(4, text() + "\n\n")
        self.bad(6, text(0, ("mark a 1",), ("kind k 1", "kind l 1", "kind m 1")) + "\n")

    def test_lines_that_stand_in_another_sequence(self):
        self.bad(2, "book 0\nkind k 1\nmark a 1")
        self.bad(2, "book 0\nkind k\nmark a 1")
        self.bad(4, "book 0\nmark a 1\nkind k 1\nmark b 1")
        self.bad(2, "book 0\nbook 0\nmark a 1\nkind k 1")
        self.bad(4, "book 0\nmark a 1\nkind k 1\nbook 0")
        self.bad(3, "book 0\nmark a 1\n\nkind k 1")
        self.bad(3, "book 0\nmark a 1\nyard\nkind k 1")

    def test_one_to_four_marks(self):
        marks = [f"mark {name} {at + 1}" for at, name in enumerate("abcde")]
        for many in range(1, 5):
            numbers = " ".join(["7"] * many * many)
            book = self.taken(text(0, marks[:many], ("kind k " + numbers,)))
            self.assertEqual(book.marks, tuple("abcd"[:many]))
            self.assertEqual([book.weight(mark) for mark in book.marks], [1, 2, 3, 4][:many])
        self.bad(6, text(0, marks, ("kind k " + " ".join(["7"] * 25),)))
        self.bad(6, text(0, marks, ("kind k " + " ".join(["7"] * 16),)))

    def test_one_to_three_kinds(self):
        kinds = [f"kind {name} 1" for name in "klmn"]
        for many in range(1, 4):
            self.assertEqual(self.taken(text(0, ("mark a 1",), kinds[:many])).kinds, tuple("klm"[:many]))
        self.bad(6, text(0, ("mark a 1",), kinds))
        self.bad(6, text(0, ("mark a 1",), kinds + ["kind k"]))

    def test_names(self):
        for name in ("a", "z", "az", "abc", "abcd", "zzzz", "mark", "kind", "book", "one", "add"):
            self.assertEqual(self.taken(text(0, (f"mark {name} 1",))).marks, (name,))
            self.assertEqual(self.taken(text(0, ("mark a 1",), (f"kind {name} 1",))).kinds, (name,))
        for name in ("", "abcde", "A", "aB", "a1", "1", "a-", "_", "a_b", "a.b", "*", "=", "`", "{", "@", "["):
            self.bad(2, text(0, (f"mark {name} 1",)))
            self.bad(3, text(0, ("mark a 1",), (f"kind {name} 1",)))
            self.bad(3, text(0, ("mark b 1", f"mark {name} 1"), ("kind k 1 1 1 1",)))
            self.bad(4, text(0, ("mark a 1",), ("kind k 1", f"kind {name} 1")))

    def test_no_two_marks_and_no_two_kinds_have_one_name(self):
        self.bad(3, text(0, ("mark a 1", "mark a 1"), ("kind k 1 1 1 1",)))
        self.bad(4, text(0, ("mark a 1", "mark b 1", "mark a 2"), ("kind k 1 1 1 1 1 1 1 1 1",)))
        self.bad(4, text(0, ("mark a 1",), ("kind k 1", "kind k 1")))
        self.bad(5, text(0, ("mark a 1",), ("kind k 1", "kind l 1", "kind k 2")))
        book = self.taken(text(0, ("mark k 1", "mark l 2"), ("kind l 1 1 1 1", "kind k 2 2 2 2")))
        self.assertEqual([book.marks, book.kinds], [("k", "l"), ("l", "k")])

    def test_weights_by_nought(self):
        for weight in (1, -1, 9, 10, -10, TOP - 1, TOP, -TOP, 1 - TOP):
            self.assertEqual(self.taken(text(0, (f"mark a {weight}",))).weight("a"), weight)
        for weight in (0, TOP + 1, -TOP - 1, 10 * TOP, -10 * TOP, "9" * 13, "9" * 19000, "-" + "9" * 19000):
            self.bad(2, text(0, (f"mark a {weight}",)))
            self.bad(3, text(0, ("mark b 1", f"mark a {weight}"), ("kind k 1 1 1 1",)))

    def test_weights_by_a_prime(self):
        for by in PRIMES:
            for weight in (-1, 0, 1, by - 2, by - 1, by, by + 1, -by):
                written = text(by, (f"mark a {weight}",))
                if 1 <= weight < by:
                    self.assertEqual(self.taken(written).weight("a"), weight)
                else:
                    self.bad(2, written)

    def test_worths_by_nought(self):
        for worth in (0, 1, -1, 10, -10, TOP - 1, TOP, -TOP, 1 - TOP):
            self.assertEqual(self.taken(text(0, kinds=(f"kind k {worth}",))).worth("k", "a", "a"), worth)
        for worth in (TOP + 1, -TOP - 1, 10 * TOP, -10 * TOP, "9" * 19000):
            self.bad(3, text(0, kinds=(f"kind k {worth}",)))
            self.bad(4, text(0, ("mark a 1", "mark b 1"), (f"kind k 1 1 1 {worth}",)))

    def test_worths_by_a_prime(self):
        for by in PRIMES:
            for worth in (-1, 0, 1, by - 1, by, by + 1, -by):
                written = text(by, kinds=(f"kind k {worth}",))
                if 0 <= worth < by:
                    self.assertEqual(self.taken(written).worth("k", "a", "a"), worth)
                else:
                    self.bad(3, written)

    def test_integers_stand_as_python_writes_them(self):
        for by in (0, 2, 97):
            for word in ODD_WORDS:
                self.bad(2, text(by, (f"mark a {word}",)))
                self.bad(3, text(by, kinds=(f"kind k {word}",)))
                self.bad(5, text(by, ("mark a 1", "mark b 1"), ("kind k 1 1 1 1", f"kind l 1 {word} 1 1")))

    def test_as_many_worths_as_marks_times_marks(self):
        for many in range(1, 5):
            marks = [f"mark {name} 1" for name in "abcd"[:many]]
            for numbers in range(0, 20):
                written = text(0, marks, (" ".join(["kind k"] + ["1"] * numbers),))
                if numbers == many * many:
                    self.taken(written)
                else:
                    self.bad(many + 2, written)

    def test_blanks(self):
        for mark in ("mark  a 1", "mark a  1", " mark a 1", "mark a 1 ", "mark a", "mark", "mark a 1 1", "mark 1 a",
                     "Mark a 1", "a 1", "mark a1", "marka 1"):
            self.bad(2, text(0, (mark,)))
        for kind in ("kind  k 1", "kind k  1", " kind k 1", "kind k 1 ", "kind k", "kind", "kind 1", "Kind k 1",
                     "k 1", "kindk 1", "mark"):
            self.bad(3, text(0, ("mark a 1",), (kind,)))

    def test_the_first_wrong_line_is_told(self):
        self.bad(1, "book 1\nmark a 0\nkind k x")
        self.bad(2, "book 0\nmark a 0\nkind k x")
        self.bad(3, "book 0\nmark a 1\nkind k x\n\n")
        self.bad(4, "book 0\nmark a 1\nkind k 1\nx\nkind k 1")
        self.bad(3, "book 3\nmark a 2\nkind k 3\nkind l 3")

    def test_each_worth_has_its_place(self):
        book = self.taken(text(0, ("mark b 5", "mark a 6"), ("kind z 1 2 3 4", "kind y -1 0 -3 9")))
        self.assertEqual([book.marks, book.kinds], [("b", "a"), ("z", "y")])
        pairs = [("b", "b"), ("b", "a"), ("a", "b"), ("a", "a")]
        self.assertEqual([book.worth("z", one, other) for one, other in pairs], [1, 2, 3, 4])
        self.assertEqual([book.worth("y", one, other) for one, other in pairs], [-1, 0, -3, 9])
        self.assertEqual([book.weight("b"), book.weight("a")], [5, 6])


if __name__ == "__main__":
    unittest.main()

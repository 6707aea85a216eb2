"""Section 7: what each form of a line is worth, tables, counts, and their errors."""

import itertools
import unittest

from opengates.books import Book
from opengates.errors import BadFactor, BadRow, NoKind, OpenGates, OtherBook, OtherGates
from opengates.scripts import Script
from opengates.tables import count, line_tables, Table, table
from tests.helpers import any_values, expect, expect_very

BOOK = Book("book 0\nmark a 2\nmark b -3\nkind k 1 5 7 11\nkind l 0 1 -1 2")
FIVE = Book("book 5\nmark z 2\nmark a 3\nkind k 1 0 2 4\nkind l 0 1 4 2")
ONE = Book("book 0\nmark only 7\nkind k 3\nkind l -2")
FOUR = Book("book 0\nmark d 1\nmark b 2\nmark c 3\nmark a 4\nkind k " + " ".join(str(at) for at in range(16)))


def script(*lines):
    return Script("\n".join(["script", *lines]))


def whole(*numbers):
    return tuple((number, 1) for number in numbers)


class Forms(unittest.TestCase):
    def told(self, book, *lines):
        """The worths of the last line, told in three ways."""
        one = script(*lines)
        found = table(book, one)
        self.assertEqual(line_tables(book, one)[-1], (one.lines[-1][0], found.worths))
        self.assertEqual(found.gates, one.gates)
        return found.worths

    def test_one(self):
        for many in range(5):
            gates = " ".join(["one"] + [str(gate) for gate in range(1, many + 1)])
            self.assertEqual(self.told(BOOK, f"a = {gates}"), whole(*[1] * 2 ** many))
            self.assertEqual(self.told(FIVE, f"a = {gates}"), whole(*[1] * 2 ** many))
            self.assertEqual(self.told(ONE, f"a = {gates}"), whole(1))
            self.assertEqual(self.told(FOUR, f"a = {gates}"), whole(*[1] * 4 ** many))

    def test_road_leads_from_the_first_gate_to_the_second(self):
        self.assertEqual(self.told(BOOK, "a = road k 1 2"), whole(1, 5, 7, 11))
        self.assertEqual(self.told(BOOK, "a = road k 2 1"), whole(1, 7, 5, 11))
        self.assertEqual(self.told(BOOK, "a = road l 2 4"), whole(0, 1, -1, 2))
        self.assertEqual(self.told(BOOK, "a = road l 4 2"), whole(0, -1, 1, 2))
        self.assertEqual(self.told(BOOK, "a = road k 3 3"), whole(1, 11))
        self.assertEqual(self.told(FIVE, "a = road k 1 2"), whole(1, 0, 2, 4))
        self.assertEqual(self.told(ONE, "a = road l 1 2"), whole(-2))
        self.assertEqual(self.told(FOUR, "a = road k 4 4"), whole(0, 5, 10, 15))
        self.assertEqual(self.told(FOUR, "a = road k 3 1")[1:5], whole(4, 8, 12, 1))

    def test_product_at_the_same_gates(self):
        self.assertEqual(self.told(BOOK, "a = road k 1 2", "b = road l 1 2", "c = a * b"), whole(0, 5, -7, 22))
        self.assertEqual(self.told(BOOK, "a = road k 1 2", "c = a * a"), whole(1, 25, 49, 121))
        self.assertEqual(self.told(FIVE, "a = road k 1 2", "c = a * a"), whole(1, 0, 4, 1))

    def test_product_at_other_gates(self):
        one = ["a = road k 1 1", "b = road l 2 2"]
        self.assertEqual(self.told(BOOK, *one, "c = a * b"), whole(0, 2, 0, 22))
        self.assertEqual(self.told(BOOK, *one, "c = b * a"), whole(0, 2, 0, 22))
        two = ["a = road k 1 3", "b = road l 2 3"]
        found = [k * l for k, l in [(1, 0), (5, 1), (1, -1), (5, 2), (7, 0), (11, 1), (7, -1), (11, 2)]]
        self.assertEqual(self.told(BOOK, *two, "c = a * b"), whole(*found))
        self.assertEqual(self.told(BOOK, *two, "c = b * a"), whole(*found))
        self.assertEqual(self.told(BOOK, "n = one", "m = add 3 n", "a = road k 1 2", "c = m * a"), whole(3, 15, 21, 33))

    def test_close_takes_the_weights(self):
        # The gate at the mark: 2 * k(a, .) - 3 * k(b, .), and the other way about.
        self.assertEqual(self.told(BOOK, "a = road k 1 2", "c = close 1 a"), whole(2 - 21, 10 - 33))
        self.assertEqual(self.told(BOOK, "a = road k 1 2", "c = close 2 a"), whole(2 - 15, 14 - 33))
        self.assertEqual(self.told(BOOK, "a = road k 1 2", "b = close 2 a", "c = close 1 b"), whole(2 * -13 + 3 * 19))
        self.assertEqual(self.told(BOOK, "a = one 3", "c = close 3 a"), whole(-1))
        self.assertEqual(self.told(FIVE, "a = one 3", "c = close 3 a"), whole(0))
        self.assertEqual(self.told(FIVE, "a = road k 1 2", "c = close 1 a"), whole((2 + 6) % 5, 12 % 5))
        self.assertEqual(self.told(ONE, "a = road k 1 2", "c = close 1 a"), whole(21))
        middle = self.told(FOUR, "a = road k 1 2", "b = road k 2 3", "c = a * b", "d = close 2 c")
        self.assertEqual(middle[0], whole(sum(k * (at + 1) * 4 * at for at, k in enumerate((0, 1, 2, 3))))[0])

    def test_turn_of_two_gates(self):
        self.assertEqual(self.told(BOOK, "a = road k 1 2", "c = turn 1 2 a"), whole(1, 7, 5, 11))
        self.assertEqual(self.told(BOOK, "a = road k 1 2", "c = turn 2 1 a"), whole(1, 7, 5, 11))
        three = ["a = road k 1 2", "b = road l 2 3", "c = a * b"]
        self.assertEqual(self.told(BOOK, *three, "d = turn 1 3 c"),
                         whole(*[k * l for k, l in [(1, 0), (7, 0), (5, -1), (11, -1), (1, 1), (7, 1), (5, 2), (11, 2)]]))

    def test_turn_of_one_gate(self):
        for turn in ("turn 2 3 a", "turn 3 2 a"):
            self.assertEqual(self.told(BOOK, "a = road k 1 2", f"c = {turn}"), whole(1, 5, 7, 11))
        for turn in ("turn 1 3 a", "turn 3 1 a"):
            # What was at gate 1 is behind gate 2 now, so the rows stand the other way about.
            self.assertEqual(self.told(BOOK, "a = road k 1 2", f"c = {turn}"), whole(1, 7, 5, 11))
        self.assertEqual(self.told(BOOK, "a = road k 4 4", "c = turn 4 1 a"), whole(1, 11))

    def test_add(self):
        self.assertEqual(self.told(BOOK, "a = road k 1 2", "c = add 3 a"), whole(3, 15, 21, 33))
        self.assertEqual(self.told(BOOK, "a = road k 1 2", "b = road l 1 2", "c = add 1/2 a -2/3 b 0 a"),
                         ((1, 2), (11, 6), (25, 6), (25, 6)))
        self.assertEqual(self.told(BOOK, "a = one", "c = add 1/2 a 1/2 a"), whole(1))
        self.assertEqual(self.told(BOOK, "a = one", "c = add 1/2 a -1/2 a"), whole(0))
        self.assertEqual(self.told(BOOK, "a = one", "c = add -6 a 7/2 a"), ((-5, 2),))
        self.assertEqual(self.told(BOOK, "a = one", "c = add 1/6 a 1/10 a"), ((4, 15),))
        self.assertEqual(self.told(BOOK, "a = one", "b = add 2/3 a", "c = b * b"), ((4, 9),))
        self.assertEqual(self.told(BOOK, "a = one", "b = add 2/3 a", "c = add 3/2 a", "d = b * c"), whole(1))
        self.assertEqual(self.told(BOOK, "a = one 1", "b = add 1/6 a", "c = close 1 b"), ((-1, 6),))

    def test_add_by_a_prime(self):
        self.assertEqual(self.told(FIVE, "a = one", "c = add 1/2 a"), whole(3))
        self.assertEqual(self.told(FIVE, "a = one", "c = add -7/3 a"), whole(-7 * 2 % 5))
        self.assertEqual(self.told(FIVE, "a = one", "c = add 5/2 a 1/7 a"), whole(3))
        self.assertEqual(self.told(FIVE, "a = one", "c = add -1 a"), whole(4))
        for by in (2, 3, 7, 89, 97):
            book = Book(f"book {by}\nmark a 1\nkind k 1\nkind l 0")
            for bottom in range(2, 2 * by):
                if bottom % by:
                    for top in (1, -1, bottom * by + 1, -bottom - 1):
                        (worth, below), = self.told(book, "a = one", f"c = add {top}/{bottom} a")
                        self.assertEqual((worth * bottom % by, below), (top % by, 1))
                        self.assertTrue(0 <= worth < by)

    def test_a_line_used_twice_stands_there_twice(self):
        lines = ["a = road k 1 2", "b = close 2 a", "c = b * b"]
        self.assertEqual(self.told(BOOK, *lines), whole(169, 361))


class Tables(unittest.TestCase):
    def test_rows_stand_in_the_sequence_of_the_marks(self):
        found = table(FIVE, script("a = one 1 3"))
        self.assertEqual(found.rows, (("z", "z"), ("z", "a"), ("a", "z"), ("a", "a")))
        self.assertEqual(table(FIVE, script("a = one")).rows, ((),))
        self.assertEqual(table(ONE, script("a = one 2 4")).rows, (("only", "only"),))
        for many in range(5):
            found = table(FOUR, script(" ".join(["a = one"] + [str(gate) for gate in range(1, many + 1)])))
            self.assertEqual(found.rows, tuple(itertools.product(("d", "b", "c", "a"), repeat=many)))
            self.assertEqual(len(found.worths), 4 ** many)

    def test_properties(self):
        one = script("a = road k 4 2")
        found = table(BOOK, one)
        self.assertIs(found.book, BOOK)
        self.assertEqual((found.gates, type(found.gates)), ((2, 4), tuple))
        self.assertEqual((type(found.rows), type(found.worths), type(found)), (tuple, tuple, Table))
        self.assertLessEqual({"book", "gates", "rows", "worths"}, set(vars(found)))

    def test_rows_are_asked(self):
        found = table(BOOK, script("a = road k 1 2"))
        self.assertEqual([found[row] for row in found.rows], list(found.worths))
        self.assertEqual(found[("b", "a")], (7, 1))
        self.assertEqual(table(BOOK, script("a = one"))[()], (1, 1))

    def test_bad_row(self):
        found = table(BOOK, script("a = road k 1 2"))
        rows = [(), ("a",), ("a", "b", "a"), ("a", "c"), ("a", "k"), ["a", "b"], "ab", ("a", None), ("a", ("b",)), ("a", 1),
                (("a", "b"),), {"a": "b"}, ("a", True), ("A", "b"), ("a", ["b"]), found, (found, found), BOOK]
        for value in rows + [value for value in any_values() if value != ("a", "b")]:
            expect_very(self, BadRow, value, lambda: found[value])
        none = table(BOOK, script("a = one"))
        for value in [row for row in rows + any_values() if row != ()] + [("a",), [], ((),)]:
            expect_very(self, BadRow, value, lambda: none[value])

    def test_sums(self):
        one, other = table(BOOK, script("a = road k 1 2")), table(BOOK, script("a = road l 1 2", "b = add 1/2 a"))
        found = one + other
        self.assertEqual(found.worths, ((1, 1), (11, 2), (13, 2), (12, 1)))
        self.assertEqual((found.gates, found.rows), ((1, 2), one.rows))
        five = table(FIVE, script("a = road k 2 4"))
        self.assertEqual((five + five).worths, whole(2, 0, 4, 3))

    def test_products(self):
        one, other = table(BOOK, script("a = road k 1 3")), table(BOOK, script("a = road l 2 3"))
        found = one * other
        self.assertEqual((found.gates, len(found.rows)), ((1, 2, 3), 8))
        self.assertEqual(found, table(BOOK, script("a = road k 1 3", "b = road l 2 3", "c = a * b")))
        self.assertEqual(other * one, found)
        none = table(BOOK, script("a = one", "b = add 2/3 a"))
        self.assertEqual((none * none).worths, ((4, 9),))
        self.assertEqual((none * one).worths, ((2, 3), (10, 3), (14, 3), (22, 3)))
        five = table(FIVE, script("a = road k 2 4"))
        self.assertEqual((five * five).worths, whole(1, 0, 4, 1))
        all_gates = table(FOUR, script("a = one 1 2 3 4"))
        self.assertEqual((all_gates * table(FOUR, script("a = road k 2 2")))[("b", "c", "d", "a")], (10, 1))

    def test_the_book_is_that_of_the_left_one(self):
        again = Book(BOOK.text)
        one, other = table(BOOK, script("a = one 1")), table(again, script("a = road k 1 1"))
        self.assertEqual(one.book, other.book)
        for left, right in ((one, other), (other, one)):
            self.assertIs((left + right).book, left.book)
            self.assertIs((left * right).book, left.book)

    def test_other_book_comes_first(self):
        one = table(BOOK, script("a = one 1"))
        for book in (FIVE, ONE, Book(BOOK.text.replace("mark a", "mark c")), Book(BOOK.text.replace("11", "10"))):
            for other in (table(book, script("a = one 1")), table(book, script("a = one 2"))):
                expect_very(self, OtherBook, other, lambda: one + other)
                expect_very(self, OtherBook, other, lambda: one * other)
                expect_very(self, OtherBook, one, lambda: other * one)

    def test_other_gates(self):
        one = table(BOOK, script("a = one 1"))
        for gates in ("", " 2", " 1 2"):
            other = table(BOOK, script(f"a = one{gates}"))
            expect_very(self, OtherGates, other, lambda: one + other)
            expect_very(self, OtherGates, one, lambda: other + one)
            self.assertEqual((one * other).gates, tuple(sorted(set(one.gates + other.gates))))

    def test_equal(self):
        one = table(BOOK, script("a = road k 1 2"))
        self.assertTrue(one == table(Book(BOOK.text), script("b = road k 2 1", "c = turn 1 2 b")))
        self.assertFalse(one != table(BOOK, script("a = road k 1 2")))
        others = [table(BOOK, script("a = road k 2 1")), table(BOOK, script("a = road k 1 3")),
                  table(Book(BOOK.text.replace("mark a 2", "mark a 3")), script("a = road k 1 2")),
                  table(BOOK, script("a = road l 1 2")), table(BOOK, script("a = one"))]
        for value in others + any_values() + [one.worths, one.rows, (one,), [one], BOOK, script("a = road k 1 2")]:
            self.assertIs(one == value, False)
            self.assertIs(value == one, False)
            self.assertIs(one != value, True)


class Counts(unittest.TestCase):
    def test_count(self):
        self.assertEqual(count(BOOK, script("a = one")), (1, 1))
        self.assertEqual(count(BOOK, script("a = one 1", "b = close 1 a")), (-1, 1))
        self.assertEqual(count(BOOK, script("a = one 1", "b = close 1 a", "c = b * b", "d = add 5/3 c")), (5, 3))
        self.assertEqual(count(FIVE, script("a = one", "d = add 5/3 a")), (0, 1))

    def test_open_gates_come_first(self):
        for gates in ((1,), (4,), (1, 3), (1, 2, 3, 4)):
            one = script("r = road none 1 1", "s = add 1/5 r", " ".join(["a = one"] + [str(gate) for gate in gates]))
            for book in (BOOK, FIVE):
                expect(self, OpenGates, gates, count, book, one)
        expect(self, NoKind, "none", count, FIVE, script("r = road none 1 1", "s = add 1/5 r", "a = one"))

    def test_names_of_lines_stand_beside_their_worths(self):
        one = script("q = one", "b = one 2", "a9 = close 2 b", "c = q * a9")
        self.assertEqual(line_tables(BOOK, one), (
            ("q", whole(1)), ("b", whole(1, 1)), ("a9", whole(-1)), ("c", whole(-1))))


class ScriptErrors(unittest.TestCase):
    CALLS = (table, line_tables)

    def refused(self, error, value, book, *lines):
        one = script(*lines)
        for call in self.CALLS:
            expect(self, error, value, call, book, one)
        expect(self, error, value, count, book, one.closed())

    def test_first_kind_that_the_book_does_not_have(self):
        for book in (BOOK, FIVE):
            self.refused(NoKind, "m", book, "a = road m 1 2")
            self.refused(NoKind, "m", book, "a = road k 1 2", "b = road m 1 2", "c = road n 1 2")
            self.refused(NoKind, "n", book, "a = road n 1 1", "b = road m 1 2", "c = one")
            self.refused(NoKind, "a", book, "k = road a 1 1")
            self.refused(NoKind, "kk", book, "k = road kk 1 1", "l = one")

    def test_kinds_of_all_lines_come_ahead_of_factors_of_all_lines(self):
        self.refused(NoKind, "m", FIVE, "a = one", "b = add 1/5 a", "c = road m 1 1")
        self.refused(NoKind, "m", FIVE, "a = one", "c = road m 1 1", "b = add 1/5 a", "d = one")

    def test_first_factor_whose_bottom_the_prime_divides(self):
        self.refused(BadFactor, (1, 5), FIVE, "a = one", "b = add 1/5 a")
        self.refused(BadFactor, (-3, 10), FIVE, "a = one", "b = add 1/2 a 5 a -3/10 a 1/5 a")
        self.refused(BadFactor, (2, 25), FIVE, "a = one 1", "b = add 2/25 a", "c = add 1/5 a", "d = one")
        self.refused(BadFactor, (7, 10 ** 300), FIVE, "a = one 1", f"b = add 7/{10 ** 300} a")
        two = Book("book 2\nmark a 1\nkind k 1")
        self.refused(BadFactor, (3, 4), two, "a = one", "b = add 1/3 a 2/5 a 3/4 a 1/2 a")
        last = Book("book 97\nmark a 1\nkind k 1")
        self.refused(BadFactor, (1, 194), last, "a = one", "b = add 1/2 a 1/96 a 1/98 a 1/194 a")

    def test_factors_that_fit(self):
        ready = script("a = one", "b = add 1/5 a 0 a 5 a")
        self.assertEqual(count(BOOK, ready), (26, 5))
        self.assertEqual(count(FIVE, script("a = one", "b = add 5/2 a 25 a 1/4 a 0 a")), (4, 1))
        # Noughts times it or not, a factor has to fit.
        self.refused(BadFactor, (1, 5), FIVE, "a = one", "b = add 0 a", "c = add 1/5 b", "d = one")


if __name__ == "__main__":
    unittest.main()

"""Section 14: links in rows and in rings."""

import itertools
import random
import unittest
from fractions import Fraction

from opengates.books import Book
from opengates.errors import BadFactor, BadNumber, NoKind, OtherBy, OtherGates
from opengates.lengths import in_ring, in_row, recurrence, ring_script, rings_alike, row_script, rows_alike
from opengates.nets import net
from opengates.scripts import Script
from opengates.spans import determinant
from opengates.tables import count, table
from tests import catalog
from tests.again import rows_again, worths_again
from tests.drawing import as_worth, draw_book, draw_script
from tests.helpers import any_values, expect, expect_very

ROAD = Script("script\nx = road k 1 2")
BACK = Script("script\nx = road k 2 1")
PLACES = Script("script\nx = one 1 2")
HALF = Script("script\nx = road k 1 2\ny = add 1/7 x -2/13 x")
LADDER = Script("script\na = road k 1 2\nb = road k 1 3\nc = road k 2 4\nd = a * b\ne = d * c")
TWO_ROADS = Script("script\na = road k 1 3\nb = road k 4 2\nc = a * b\nd = add 1 c 1/11 c")
LINKS = [ROAD, BACK, PLACES, HALF, ROAD * ROAD, LADDER, TWO_ROADS, LADDER + TWO_ROADS, Script("script\nx = one 1 2 3 4"), ROAD - PLACES]
GREATEST = 10 ** 18


def square_again(book, script):
    """The square of a book and a link, of Fractions."""
    ends = rows_again(book, len(script.gates) // 2)
    told = dict(zip(rows_again(book, len(script.gates)), worths_again(book, script.text)))
    return [[Fraction(*told[front + back]) * weight_of(book, back) for back in ends] for front in ends]


def weight_of(book, row):
    weight = 1
    for mark in row:
        weight *= book.weight(mark)
    return weight


def laid(book, one, other):
    rows = [[sum(its * more for its, more in zip(row, column)) for column in zip(*other)] for row in one]
    return [[number % book.by for number in row] for row in rows] if book.by else rows


def powers(book, script, many):
    """The square once to so many times with itself."""
    square = square_again(book, script)
    found = [square]
    while len(found) < many:
        found.append(laid(book, found[-1], square))
    return found


def row_of(book, script, rows):
    weights = [weight_of(book, front) for front in rows_again(book, len(script.gates) // 2)]
    return as_worth(book.by, sum(weight * sum(row) for weight, row in zip(weights, rows)))


def ring_of(book, rows):
    return as_worth(book.by, sum(rows[at][at] for at in range(len(rows))))


class RowsAndRings(unittest.TestCase):
    def test_each_number_of_copies(self):
        for book in catalog.BOOKS:
            for script in LINKS:
                if len(book) == 4 and len(script.gates) == 4 and book.by == 0:
                    continue
                many = 12 if len(script.gates) == 2 else 4
                for n, rows in enumerate(powers(book, script, many), 1):
                    self.assertEqual(in_row(book, script, n), row_of(book, script, rows))
                    self.assertEqual(in_ring(book, script, n), ring_of(book, rows))

    def test_the_greatest_numbers_by_nought(self):
        for book in (catalog.SAME, catalog.UNLIKE, catalog.ODD, catalog.ONE):
            for script in (ROAD, HALF, LADDER):
                rows = powers(book, script, 40)
                self.assertEqual(in_row(book, script, 40), row_of(book, script, rows[39]))
                self.assertEqual(in_ring(book, script, 40), ring_of(book, rows[39]))
                self.assertEqual(in_row(book, script, 39), row_of(book, script, rows[38]))
        four = catalog.SQUARE
        rows = powers(four, LADDER, 40)
        self.assertEqual(in_row(four, LADDER, 40), row_of(four, LADDER, rows[39]))
        self.assertEqual(in_ring(four, LADDER, 40), ring_of(four, rows[39]))

    def test_great_numbers_by_primes(self):
        # What comes again and again is found by going on until it does.
        for book in (catalog.BY_TWO, catalog.BY_THREE, catalog.BY_FIVE, catalog.book(7, [1, 1], "1 1 1 0"), catalog.book(2, [1, 1], "1 1 1 0")):
            for script in (ROAD, LADDER, ROAD * ROAD):
                seen, rows, many = {}, [], 0
                square = square_again(book, script)
                now = square
                while str(now) not in seen:
                    many += 1
                    seen[str(now)] = many
                    rows.append(now)
                    now = laid(book, now, square)
                ahead = seen[str(now)]
                for n in (GREATEST, GREATEST - 1, 10 ** 17 + 3, 2 ** 59, 1000, many + 1):
                    at = n if n < ahead else ahead + (n - ahead) % (many + 1 - ahead)
                    self.assertEqual(in_row(book, script, n), row_of(book, script, rows[at - 1]))
                    self.assertEqual(in_ring(book, script, n), ring_of(book, rows[at - 1]))
        book = catalog.book(97, [1, 2, 3, 4], " ".join(str(at * at % 97) for at in range(16)))
        self.assertEqual(in_row(book, LADDER, GREATEST)[1], 1)
        # One mark alone: a power by Fermat.
        lone = catalog.book(97, [5], "3")
        self.assertEqual(in_ring(lone, ROAD, GREATEST), (pow(15, GREATEST, 97), 1))
        self.assertEqual(in_row(lone, ROAD, GREATEST), (5 * pow(15, GREATEST, 97) % 97, 1))

    def test_remainders_of_plain_links(self):
        for n in (1, 2, 7, 40):
            for script in (ROAD, ROAD * BACK, LADDER):
                whole = [in_row(catalog.LOPSIDED, script, n)[0], in_ring(catalog.LOPSIDED, script, n)[0]]
                for by in (2, 3, 97):
                    book = catalog.book(by, [1, 2], "0 1 1 0") if by > 2 else None
                    if book is not None:
                        self.assertEqual([in_row(book, script, n)[0], in_ring(book, script, n)[0]], [number % by for number in whole])


class Scripts(unittest.TestCase):
    def check_row(self, script, n, books):
        found = row_script(script, n)
        self.assertEqual((found.gates, found.is_plain), ((1, 2), script.is_plain))
        self.assertLessEqual(found.width, max(3, script.width))
        self.assertLessEqual(len(found), len(script) + 10 * len(bin(n)))
        for book in books:
            worths = table(book, found).worths
            self.assertEqual(worths, self.worths(book, script, n))
            if book.by or n <= 40:
                self.assertEqual(count(book, found.closed()), in_row(book, script, n))
        return found

    def worths(self, book, script, n):
        """The worths of n copies in a row, at all rows, by the square; the last back has no weight."""
        rows = square_again(book, script)
        square, left, found = rows, n - 1, [[int(one == other) for other in range(len(rows))] for one in range(len(rows))]
        while left:
            if left % 2:
                found = laid(book, found, square)
            square, left = laid(book, square, square), left // 2
        told = dict(zip(rows_again(book, 2), worths_again(book, script.text)))
        last = [[Fraction(*told[front, back]) for back in book.marks] for front in book.marks]
        return tuple(as_worth(book.by, number) for row in laid(book, found, last) for number in row)

    def check_ring(self, script, n, books):
        found = ring_script(script, n)
        self.assertEqual((found.gates, found.is_plain), ((), script.is_plain))
        self.assertLessEqual(found.width, max(3, script.width))
        self.assertLessEqual(len(found), len(script) + 10 * len(bin(n)))
        for book in books:
            if book.by or n <= 40:
                self.assertEqual(count(book, found), in_ring(book, script, n))
        return found

    def test_few_copies(self):
        wide = Script("script\na = road k 1 2\nb = road k 2 3\nc = road k 3 4\nd = a * b\ne = d * c\nf = close 2 e\ng = close 3 f\nh = turn 2 4 g")
        books = [catalog.SAME, catalog.UNLIKE, catalog.ODD, catalog.BY_TWO_THREE, catalog.BY_FIVE, catalog.ONE]
        for script in (ROAD, BACK, PLACES, ROAD * ROAD, ROAD * BACK, wide, HALF, ROAD - PLACES):
            for n in list(range(1, 18)) + [31, 32, 33, 40]:
                self.check_row(script, n, books)
                if n > 1:
                    self.check_ring(script, n, books)
        self.assertEqual(wide.width, 4)

    def test_the_nets_of_plain_ones(self):
        for n in range(1, 30):
            places, roads, gates = net(row_script(ROAD, n))
            self.assertEqual((places, len(roads)), (n + 1, n))
            # From front to back each place has one road ahead and one behind.
            ahead = {start: end for _, start, end in roads}
            at = dict(gates)[1]
            for _ in range(n):
                at = ahead[at]
            self.assertEqual(at, dict(gates)[2])
            if n > 1:
                places, roads, gates = net(ring_script(ROAD, n))
                self.assertEqual((places, len(roads), gates), (n, n, ()))
                ahead = {start: end for _, start, end in roads}
                at = 0
                for many in range(1, n + 1):
                    at = ahead[at]
                    self.assertEqual(at == 0, many == n)

    def test_drawn(self):
        chance = random.Random(140)
        for _ in range(40):
            script = draw_script(chance, gates=(1, 2), plain=chance.random() < 0.5)
            book = draw_book(chance, chance.choice((0, 3, 97)), chance.randint(1, 3))
            n = chance.choice((2, 3, 5, 6, 11))
            self.check_row(script, n, [book])
            self.check_ring(script, n, [book])

    def test_great_numbers(self):
        books = [catalog.BY_TWO, catalog.BY_THREE, catalog.BY_FIVE, catalog.BY_GREATEST]
        for n in (GREATEST, GREATEST - 1, 2 ** 59, 2 ** 59 - 1):
            for script in (ROAD, ROAD * BACK, ROAD - PLACES):
                self.check_row(script, n, books)
                self.check_ring(script, n, books)

    def test_long_links(self):
        rows = ["script", "a0 = road k 1 2"] + [f"a{at} = " + ("turn 1 2 a{0}", "a{0} * a0")[at % 2].format(at - 1) for at in range(1, 400)]
        long = Script("\n".join(rows))
        self.assertEqual(len(long), 400)
        self.check_row(long, GREATEST, [catalog.BY_FIVE])
        self.check_ring(long, GREATEST - 7, [catalog.BY_FIVE])
        # What was told may be handed in again.
        again = row_script(row_script(long, 1000), 1000)
        self.assertEqual(table(catalog.BY_FIVE, again), table(catalog.BY_FIVE, row_script(long, 10 ** 6)))
        self.assertEqual(in_ring(catalog.BY_FIVE, again, 10 ** 12), in_ring(catalog.BY_FIVE, long, 10 ** 18))


class Recurrence(unittest.TestCase):
    def slow(self, book, script):
        """The sums of the determinants in the same rows and columns."""
        square = [[as_worth(book.by, number) for number in row] for row in square_again(book, script)]
        found = []
        for many in range(1, len(square) + 1):
            total = Fraction(0)
            for places in itertools.combinations(range(len(square)), many):
                total += Fraction(*determinant(book.by, tuple(tuple(square[one][other] for other in places) for one in places)))
            found.append(as_worth(book.by, total if many % 2 else -total))
        return tuple(found)

    def test_small_squares(self):
        for book in catalog.BOOKS:
            for script in LINKS:
                if len(book) ** (len(script.gates) // 2) <= 9:
                    self.assertEqual(recurrence(book, script), self.slow(book, script))
        chance = random.Random(141)
        for _ in range(60):
            book = draw_book(chance)
            script = draw_script(chance, gates=(1, 2))
            self.assertEqual(recurrence(book, script), self.slow(book, script))

    def test_all_go_on_as_it_tells(self):
        for book in catalog.BOOKS:
            for script in (ROAD, HALF, LADDER, TWO_ROADS):
                factors = [Fraction(*worth) for worth in recurrence(book, script)]
                many = len(factors)
                self.assertEqual(many, len(book) ** (len(script.gates) // 2))
                for call in (in_row, in_ring):
                    worths = [Fraction(*call(book, script, n)) for n in range(1, min(40, many + 8) + 1)]
                    for at in range(many, len(worths)):
                        wanted = sum(factor * worths[at - ahead] for ahead, factor in enumerate(factors, 1))
                        self.assertEqual(as_worth(book.by, worths[at]), as_worth(book.by, wanted))

    def test_sixteen_rows(self):
        self.assertEqual(len(recurrence(catalog.SQUARE, LADDER)), 16)
        self.assertEqual(recurrence(catalog.book(0, [1, 1, 1, 1], " ".join(["1"] * 16)), LADDER), ((16, 1),) + ((0, 1),) * 15)
        four = catalog.book(2, [1, 1, 1, 1], " ".join(["1"] * 16))
        self.assertEqual(recurrence(four, LADDER), ((0, 1),) * 16)

    def test_rows_of_tables_go_on_too(self):
        for book in (catalog.UNLIKE, catalog.BY_FIVE, catalog.GREAT):
            factors = [Fraction(*worth) for worth in recurrence(book, ROAD)]
            tables = [table(book, row_script(ROAD, n)).worths for n in range(1, 9)]
            for at in range(len(factors), 8):
                for place in range(len(tables[0])):
                    wanted = sum(factor * Fraction(*tables[at - ahead][place]) for ahead, factor in enumerate(factors, 1))
                    self.assertEqual(tables[at][place], as_worth(book.by, wanted))


class Alike(unittest.TestCase):
    def slow(self, call, one, script, other, its):
        """Far beyond both squares together all lengths are gone through."""
        for n in range(1, 41):
            if call(one, script, n) != call(other, its, n):
                return ("unlike", n)
        return ("alike",)

    def test_all_pairs(self):
        told = {}
        books = [book for book in catalog.BOOKS if len(book) < 4]
        for one, other in itertools.product(books, repeat=2):
            if one.by != other.by:
                expect_very(self, OtherBy, other, rows_alike, one, ROAD, other, ROAD)
                expect_very(self, OtherBy, other, rings_alike, one, LADDER, other, Script("script\nx = one"))
                continue
            for script, its in ((ROAD, ROAD), (ROAD, BACK), (ROAD, ROAD * ROAD), (PLACES, PLACES), (ROAD * ROAD, ROAD * BACK)):
                for call, slow in ((rows_alike, in_row), (rings_alike, in_ring)):
                    found = call(one, script, other, its)
                    self.assertEqual(found, self.slow(slow, one, script, other, its))
                    told[found] = told.get(found, 0) + 1
        self.assertTrue(told["alike",] > 50 and told["unlike", 1] > 50 and told["unlike", 2] > 10 and told["unlike", 3] > 2, told)

    def test_links_of_four_gates(self):
        for one, other in itertools.product((catalog.SAME, catalog.ODD, catalog.EQUAL, catalog.ONE, catalog.LED), repeat=2):
            for script, its in ((LADDER, LADDER), (LADDER, ROAD), (TWO_ROADS, LADDER), (ROAD, TWO_ROADS)):
                for call, slow in ((rows_alike, in_row), (rings_alike, in_ring)):
                    self.assertEqual(call(one, script, other, its), self.slow(slow, one, script, other, its))

    def test_late_partings(self):
        # Round and round: a ring of three roads counts only if it is as long as three, six, ..
        round_trip = catalog.ROUND
        none = catalog.book(0, [1, 1, 1], "0 1 0 0 0 1 0 0 0")
        self.assertEqual(rings_alike(round_trip, ROAD, none, ROAD), ("unlike", 3))
        self.assertEqual(rings_alike(none, ROAD, catalog.book(0, [1], "0"), ROAD), ("alike",))
        # A way of four marks, one behind the other, is as one without an end until it ends.
        way = catalog.book(0, [1, 1, 1, 1], "0 1 0 0 0 0 1 0 0 0 0 1 0 0 0 0")
        self.assertEqual(rows_alike(way, ROAD, catalog.book(0, [1, 1, 1, 1], "0 1 0 0 0 0 1 0 0 0 0 1 0 0 0 0"), BACK), ("alike",))
        loop = catalog.book(0, [1, 1, 1, 1], "0 1 0 0 0 0 1 0 0 0 0 0 0 0 0 1")
        self.assertEqual([rows_alike(way, ROAD, loop, ROAD), rings_alike(way, ROAD, loop, ROAD)], [("unlike", 4), ("unlike", 1)])
        # Of two links with four gates and four marks each they may part as late as any.
        names = " ".join("1" if other == (one + 1) % 4 else "0" for one in range(4) for other in range(4))
        clock = catalog.book(0, [1, 1, 1, 1], names)
        both = Script("script\na = road k 1 3\nb = road k 2 4\nc = a * b")
        still = Script("script\na = road k 1 3\nb = road k 4 2\nc = a * b")
        for call, slow in ((rows_alike, in_row), (rings_alike, in_ring)):
            self.assertEqual(call(clock, both, clock, still), self.slow(slow, clock, both, clock, still))

    def test_by_a_prime_what_is_unlike_may_be_alike(self):
        one, other = catalog.book(0, [1, 1], "1 1 1 0"), catalog.book(0, [1, 1], "3 1 1 0")
        self.assertEqual(rows_alike(one, ROAD, other, ROAD), ("unlike", 1))
        self.assertEqual(rows_alike(catalog.book(2, [1, 1], "1 1 1 0"), ROAD, catalog.book(2, [1, 1], "1 1 1 0"), ROAD), ("alike",))
        self.assertEqual(rows_alike(one, ROAD, one, ROAD * ROAD), ("alike",))
        self.assertEqual(rings_alike(one, ROAD, catalog.book(0, [1], "1"), ROAD), ("unlike", 2))

    def test_other_kinds_may_be_alike(self):
        one = Book("book 0\nmark a 1\nmark b 1\nkind k 1 1 1 0")
        other = Book("book 0\nmark z 1\nmark y 1\nkind q 0 1 1 1\nkind r 1 1 1 1")
        self.assertEqual(rows_alike(one, ROAD, other, Script("script\nx = road q 1 2\ny = road r 1 2\nz = x * y")), ("alike",))


class Errors(unittest.TestCase):
    others = [Script("script\nx = one"), Script("script\nx = one 1"), Script("script\nx = one 1 3"), Script("script\nx = one 2 3"), Script("script\nx = one 3 4"),
              Script("script\nx = one 1 2 3"), Script("script\nx = road nope 2 4")]

    def test_links(self):
        for script in self.others:
            for n in (1, 0, None, 41, GREATEST + 1):
                for call in (in_row, in_ring):
                    expect_very(self, OtherGates, script, call, catalog.SAME, script, n)
                for call in (row_script, ring_script):
                    expect_very(self, OtherGates, script, call, script, n)
                    expect_very(self, OtherGates, LADDER, call, LADDER, n)
            expect_very(self, OtherGates, script, recurrence, catalog.SAME, script)
            for call in (rows_alike, rings_alike):
                expect_very(self, OtherGates, script, call, catalog.SAME, script, catalog.BY_TWO, script)
                expect_very(self, OtherBy, catalog.BY_TWO, call, catalog.SAME, ROAD, catalog.BY_TWO, script)
                expect_very(self, OtherGates, script, call, catalog.SAME, Script("script\nx = road nope 1 2"), catalog.ODD, script)

    def test_numbers(self):
        for n in any_values() + [0, -1, True, GREATEST + 1, 10 ** 30, "1", (1,), 41, 40, GREATEST]:
            good = type(n) is int and 1 <= n <= GREATEST
            for call in (row_script, in_row, in_ring, ring_script):
                before = [catalog.BY_TWO, ROAD] if call in (in_row, in_ring) else [ROAD]
                if good and not (call == ring_script and n == 1):
                    call(*before, n)
                else:
                    expect_very(self, BadNumber, n, call, *before, n)
            for call in (in_row, in_ring):
                if good and n <= 40:
                    call(catalog.SAME, LADDER, n)
                else:
                    expect_very(self, BadNumber, n, call, catalog.SAME, LADDER, n)
        self.assertEqual(row_script(ROAD, 1).gates, (1, 2))

    def test_script_errors(self):
        none = Script("script\nx = road no 1 2\ny = add 1/2 x\nz = road nope 1 2")
        half = Script("script\nx = road k 1 2\ny = add 1/3 x 3/2 x")
        for call in (in_row, in_ring):
            for n in (0, 41, None):
                expect_very(self, BadNumber, n, call, catalog.SAME, none, n)
            expect(self, NoKind, "no", call, catalog.BY_TWO, none, 41)
            expect(self, BadFactor, (3, 2), call, catalog.BY_TWO, half, 41)
        expect(self, NoKind, "no", recurrence, catalog.BY_TWO, none)
        expect(self, BadFactor, (3, 2), recurrence, catalog.BY_TWO, half)
        for call in (rows_alike, rings_alike):
            expect(self, NoKind, "no", call, catalog.BY_TWO, none, catalog.BY_TWO, half)
            expect(self, BadFactor, (3, 2), call, catalog.BY_TWO, half, catalog.BY_TWO, none)
            expect(self, NoKind, "no", call, catalog.BY_TWO, ROAD, catalog.BY_TWO, none)
            expect(self, BadFactor, (1, 3), call, catalog.BY_THREE, ROAD, catalog.BY_THREE, half)


if __name__ == "__main__":
    unittest.main()

"""Section 9: matrices, combinations, kernels and determinants, over fractions and over remainders."""

import itertools
import random
import unittest
from fractions import Fraction
from math import gcd

from opengates.errors import BadBy, BadRow, BadRows
from opengates.spans import determinant, in_span, kernel, shows_in_span, shows_kernel
from tests.drawing import as_fraction, as_worth
from tests.helpers import any_values, expect_very, nested

PRIMES = (2, 3, 5, 7, 11, 13, 17, 19, 23, 29, 31, 37, 41, 43, 47, 53, 59, 61, 67, 71, 73, 79, 83, 89, 97)
BYS = (0, 0, 0, 2, 3, 5, 7, 97)
ONE = ((1, 1),)
TWO = (((1, 1), (2, 1)), ((0, 1), (1, 1)))


def whole(*rows):
    return tuple(tuple((number, 1) for number in row) for row in rows)


def draw_worth(chance, by):
    if by:
        return (chance.choice([0, 1, by - 1, chance.randrange(by)]), 1)
    return as_worth(0, Fraction(chance.choice([0, 0, 1, -1, 2, -3, 7]), chance.choice([1, 1, 1, 2, 3, 6])))


def draw_matrix(chance, by, many, places):
    """A matrix, some of whose rows are noughts, or combinations of those ahead, or stand twice."""
    rows = []
    for _ in range(many):
        way = chance.random()
        if way < 0.1:
            rows.append(((0, 1),) * places)
        elif way < 0.4 and rows:
            rows.append(combined(by, rows, [draw_worth(chance, by) for _ in rows]))
        else:
            rows.append(tuple(draw_worth(chance, by) for _ in range(places)))
    chance.shuffle(rows)
    return tuple(rows)


def combined(by, rows, factors):
    """The combination of rows with factors."""
    return tuple(as_worth(by, sum(as_fraction(factor) * as_fraction(row[place]) for factor, row in zip(factors, rows)))
                 for place in range(len(rows[0])))


def product(by, one, other):
    return as_worth(by, sum(as_fraction(its) * as_fraction(more) for its, more in zip(one, other)))


def rank(by, rows):
    """How many rows of which none is a combination of the others there are: a second way."""
    left = [[as_fraction(worth) for worth in row] for row in rows]
    found = 0
    for place in range(len(rows[0]) if rows else 0):
        lead = next((row for row in left if row[place]), None)
        if lead is None:
            continue
        found += 1
        left.remove(lead)
        part = Fraction(pow(int(lead[place]), -1, by)) if by else 1 / lead[place]
        left = [[worth - row[place] * part * its for worth, its in zip(row, lead)] for row in left]
        left = [[worth % by for worth in row] for row in left] if by else left
    return found


class Arguments(unittest.TestCase):
    """BadBy, BadRows and BadRow, of all functions of the section."""

    def calls(self, by, rows, row=ONE, value=("sum", ONE)):
        return [(in_span, by, rows, row), (shows_in_span, by, rows, row, value), (kernel, by, rows),
                (shows_kernel, by, rows, value), (determinant, by, rows)]

    def refused(self, error, told, by, rows, row=ONE):
        for call, *arguments in self.calls(by, rows, row):
            expect_very(self, error, told, call, *arguments)
        for value in (None, (), ("sum", ()), 1):
            expect_very(self, error, told, shows_in_span, by, rows, row, value)
            expect_very(self, error, told, shows_kernel, by, rows, value)

    def taken(self, by, rows):
        """A matrix that all but determinant take, and this one if it has as many rows as places."""
        row = rows[0]
        self.assertTrue(shows_in_span(by, rows, row, in_span(by, rows, row)))
        self.assertTrue(shows_kernel(by, rows, kernel(by, rows)))
        if len(rows) == len(row):
            determinant(by, rows)
        else:
            expect_very(self, BadRows, rows, determinant, by, rows)

    def test_by(self):
        for by in (0,) + PRIMES:
            self.taken(by, (((0, 1), (1, 1)),))
        for by in range(-3, 130):
            if by and by not in PRIMES:
                self.refused(BadBy, by, by, TWO)
        for by in any_values() + ["0", "2", "5", (5,), [5], (0,), 101, 103, 10 ** 30, -2, -5, True, False, None]:
            if type(by) is not int or by not in (0,) + PRIMES:
                self.refused(BadBy, by, by, TWO)
                # Whatever else is wrong, this comes first.
                self.refused(BadBy, by, by, None, None)
                self.refused(BadBy, by, by, (ONE, None), ())

    def test_rows_of_every_kind(self):
        for by in (0, 2, 97):
            for value in any_values() + [ONE, [ONE], (list(ONE),), (ONE, list(ONE)), ((), ()), ((),), (((0, 1),), ()), TWO + (ONE,),
                                         (ONE, ONE + ONE), nested(ONE, 2), {0: ONE}, (TWO,), ((0, 1), (1, 1)), (ONE, None)]:
                self.refused(BadRows, value, by, value)
                # Ahead of the row, whatever it is.
                self.refused(BadRows, value, by, value, None)

    def test_how_many_rows_and_places(self):
        for by in (0, 2):
            for many in (1, 2, 15, 16):
                for places in (1, 2, 15, 16):
                    self.taken(by, (((1, 1),) * places,) * many)
                self.refused(BadRows, rows := (((1, 1),) * 17,) * many, by, rows)
                self.refused(BadRows, rows := (((1, 1),) * many,) * 17, by, rows)
            self.refused(BadRows, rows := (((1, 1),) * 17,) * 17, by, rows)
            self.refused(BadRows, (), by, ())

    def test_determinant_wants_as_many_rows_as_places(self):
        for by in (0, 3):
            for many in range(1, 17):
                for places in (1, 2, 3, 15, 16):
                    rows = (((1, 1),) * places,) * many
                    if many == places:
                        determinant(by, rows)
                    else:
                        expect_very(self, BadRows, rows, determinant, by, rows)

    def worths(self, by):
        """Values that are no worths by this by."""
        found = any_values() + [(1,), (1, 1, 1), [1, 1], (1, 0), (0, 0), (1, -1), (-1, -1), (0, -1), (0, 2), (2, 2), (2, 4), (-2, 4),
                                (6, 9), (3, 3), (True, 1), (1, True), (False, 1), (None, 1), (1, None), ("1", 1), (1, "1"), "11",
                                ((1, 1),), ((1,), 1), {1: 1}, 10 ** 30, (10 ** 30, 10 ** 30), (1, (1,)), (10 ** 40, 2 * 10 ** 40)]
        if by:
            found += [(1, 2), (by, 1), (-1, 1), (by + 1, 1), (by, by), (10 ** 30, 1), (0, by), (1 - by, 1), (1, by), (1, 3)]
        return found

    def test_worths(self):
        for by in (0, 2, 3, 5, 97):
            for value in self.worths(by):
                for rows in (((value,),), (((1, 1), value),), (((0, 1),), (value,)), (((1, 1), (0, 1)), (value, (1, 1)))):
                    self.refused(BadRows, rows, by, rows)
                row = ((1, 1), value)
                expect_very(self, BadRow, row, in_span, by, TWO if by != 2 else whole((1, 0), (0, 1)), row)
        for value in ((0, 1), (1, 1), (-1, 1), (1, 2), (-1, 2), (2, 3), (10 ** 1000, 1), (1, 10 ** 1000), (-3 * 10 ** 900, 7)):
            self.taken(0, ((value,),))
            self.taken(0, ((value, (1, 1)), ((1, 3), value)))
        for by in PRIMES:
            for top in range(by):
                self.taken(by, (((top, 1), (by - 1, 1)),))

    def test_rows_of_places(self):
        rows = (TWO, whole((1, 0), (0, 1)))
        for by, matrix in ((0, rows[0]), (2, rows[1]), (97, rows[0])):
            for value in any_values() + [(), ONE, ONE * 3, [(1, 1), (1, 1)], ((1, 1), [1, 1]), TWO, (1, 1), ((1, 1), (1, 1, 1)), (ONE, ONE)]:
                for asked in (None, ("sum", ((1, 1), (1, 1))), ()):
                    expect_very(self, BadRow, value, shows_in_span, by, matrix, value, asked)
                expect_very(self, BadRow, value, in_span, by, matrix, value)
        # It has as many places as the rows have, not as there are rows.
        long = whole((1, 0, 2))
        self.assertEqual(in_span(0, long, ((2, 1), (0, 1), (4, 1))), ("sum", ((2, 1),)))
        for row in (ONE, ONE * 2, ONE * 4):
            expect_very(self, BadRow, row, in_span, 0, long, row)


class InSpan(unittest.TestCase):
    def check(self, by, rows, row):
        """What in_span tells, tried in a second way."""
        found = in_span(by, rows, row)
        self.assertEqual((type(found), len(found), type(found[1])), (tuple, 2, tuple))
        word, worths = found
        self.assertTrue(all(worth == as_worth(by, as_fraction(worth)) for worth in worths))
        if word == "sum":
            self.assertEqual(len(worths), len(rows))
            self.assertEqual(combined(by, rows, worths), row)
        else:
            self.assertEqual((word, len(worths)), ("barred", len(row)))
            self.assertTrue(all(product(by, worths, its) == (0, 1) for its in rows))
            self.assertNotEqual(product(by, worths, row), (0, 1))
        self.assertEqual(word == "sum", rank(by, rows) == rank(by, rows + (row,)))
        self.assertIs(shows_in_span(by, rows, row, found), True)
        self.assertEqual(in_span(by, rows, row), found)
        return found

    def test_noughts(self):
        for by in (0, 2, 97):
            for places in (1, 2, 16):
                noughts = ((0, 1),) * places
                self.assertEqual(self.check(by, (noughts,), noughts)[0], "sum")
                self.assertEqual(self.check(by, (noughts,) * 16, noughts)[0], "sum")
                for at in range(places):
                    row = tuple((int(place == at), 1) for place in range(places))
                    self.assertEqual(self.check(by, (noughts,), row)[0], "barred")
                    self.assertEqual(self.check(by, (row,), noughts), ("sum", ((0, 1),)))
                    self.assertEqual(self.check(by, (noughts, row), row)[1][1], (1, 1))

    def test_one_row_and_one_place(self):
        self.assertEqual(self.check(0, whole([3]), ((5, 1),)), ("sum", ((5, 3),)))
        self.assertEqual(self.check(0, whole([-3]), ((5, 6),)), ("sum", ((-5, 18),)))
        self.assertEqual(self.check(7, whole([3]), ((5, 1),)), ("sum", ((5 * 5 % 7, 1),)))
        self.assertEqual(self.check(0, whole([0]), ((5, 1),))[0], "barred")
        self.assertEqual(self.check(0, whole([0], [2], [4]), ((5, 1),))[0], "sum")

    def test_only_by_the_prime(self):
        rows, row = whole([1, 2], [3, 1]), ((1, 1), (1, 1))
        self.assertEqual(self.check(0, rows, row), ("sum", ((2, 5), (1, 5))))
        self.assertEqual(self.check(5, rows, row)[0], "barred")
        self.assertEqual(self.check(7, rows, row)[0], "sum")

    def test_all_small_matrices_by_two(self):
        for many in (1, 2, 3):
            rows_of_places = list(itertools.product([(0, 1), (1, 1)], repeat=3))
            for rows in itertools.product(rows_of_places, repeat=many):
                sums = {combined(2, rows, factors) for factors in itertools.product([(0, 1), (1, 1)], repeat=many)}
                for row in rows_of_places:
                    self.assertEqual(in_span(2, rows, row)[0], "sum" if row in sums else "barred")
                    self.assertTrue(shows_in_span(2, rows, row, in_span(2, rows, row)))

    def test_drawn(self):
        chance = random.Random(80)
        words = []
        for _ in range(600):
            by = chance.choice(BYS)
            many, places = chance.choice([1, 2, 3, 5, 8]), chance.choice([1, 2, 3, 5, 8])
            rows = draw_matrix(chance, by, many, places)
            row = tuple(draw_worth(chance, by) for _ in range(places))
            if chance.random() < 0.5:
                row = combined(by, rows, [draw_worth(chance, by) for _ in rows])
            words.append(self.check(by, rows, row)[0])
        self.assertTrue(100 < words.count("barred") < 500)

    def test_sixteen(self):
        chance = random.Random(81)
        for by in (0, 2, 97):
            for _ in range(6):
                rows = draw_matrix(chance, by, 16, 16)
                self.check(by, rows, tuple(draw_worth(chance, by) for _ in range(16)))
                self.check(by, rows, combined(by, rows, [draw_worth(chance, by) for _ in rows]))

    def test_great_numbers(self):
        chance = random.Random(82)
        rows = tuple(tuple(as_worth(0, Fraction(chance.randint(-10 ** 40, 10 ** 40), chance.randint(1, 10 ** 30))) for _ in range(5))
                     for _ in range(4))
        row = rows[0]
        self.assertEqual(self.check(0, rows, row), ("sum", whole([1, 0, 0, 0])[0]))
        found = self.check(0, rows, tuple((10 ** at, 7 ** at) for at in range(5)))
        self.assertEqual(found[0], "barred")
        # What was told may be handed in again.
        self.assertEqual(self.check(0, rows, found[1])[0], "barred")
        self.check(0, rows[:3] + (found[1],), rows[3])

    def test_both_are_never_shown(self):
        chance = random.Random(83)
        for _ in range(200):
            by = chance.choice(BYS)
            rows = draw_matrix(chance, by, 3, 3)
            row = tuple(draw_worth(chance, by) for _ in range(3))
            word = in_span(by, rows, row)[0]
            other = "sum" if word == "barred" else "barred"
            for _ in range(30):
                worths = tuple(draw_worth(chance, by) for _ in range(3))
                self.assertFalse(shows_in_span(by, rows, row, (other, worths)))
                right = combined(by, rows, worths) == row if word == "sum" else (
                    all(product(by, worths, its) == (0, 1) for its in rows) and product(by, worths, row) != (0, 1))
                self.assertIs(shows_in_span(by, rows, row, (word, worths)), right)


class ShowsInSpan(unittest.TestCase):
    rows = whole([1, 2], [2, 4], [0, 0])

    def test_all_right_sums(self):
        row = ((3, 1), (6, 1))
        for factors in ([3, 0, 0], [1, 1, 0], [-1, 2, 7], [3, 0, -5], [5, -1, 10 ** 40]):
            self.assertIs(shows_in_span(0, self.rows, row, ("sum", whole(factors)[0])), True)
        self.assertIs(shows_in_span(0, self.rows, row, ("sum", ((0, 1), (3, 2), (-1, 3)))), True)
        for factors in ([3, 0], [3, 0, 0, 0], [2, 0, 0], [3, 1, 0], [0, 0, 3]):
            self.assertIs(shows_in_span(0, self.rows, row, ("sum", whole(factors)[0])), False)

    def test_all_right_bars(self):
        row = ((1, 1), (1, 1))
        for places in ([2, -1], [-2, 1], [20, -10], [10 ** 40, -5 * 10 ** 39]):
            self.assertIs(shows_in_span(0, self.rows, row, ("barred", whole(places)[0])), True)
        self.assertIs(shows_in_span(0, self.rows, row, ("barred", ((1, 1), (-1, 2)))), True)
        for places in ([0, 0], [2, 1], [1, -2], [2, -1, 0], [2]):
            self.assertIs(shows_in_span(0, self.rows, row, ("barred", whole(places)[0])), False)
        # It bars all rows but one.
        self.assertIs(shows_in_span(0, self.rows + whole([1, 1]), ((0, 1), (1, 1)), ("barred", whole([2, -1])[0])), False)

    def test_words(self):
        bars, sums = ((2, 1), (-1, 1)), ((3, 1), (0, 1), (0, 1))
        for word in ("", "Barred", "bar", "barred ", " barred", "bars", "none", "sum", "sums", ("barred",), None, 1, True):
            self.assertIs(shows_in_span(0, self.rows, ((1, 1), (1, 1)), (word, bars)), False)
            self.assertIs(shows_in_span(0, self.rows + whole([5, 5]), ((1, 1), (1, 1)), (word, sums)), False)
        for word in ("", "Sum", "sum ", "barred", "add"):
            self.assertIs(shows_in_span(0, self.rows, ((3, 1), (6, 1)), (word, sums)), False)
        self.assertIs(shows_in_span(0, self.rows, ((1, 1), (1, 1)), ("barred", bars)), True)
        self.assertIs(shows_in_span(0, self.rows, ((3, 1), (6, 1)), ("sum", sums)), True)

    def test_near_values(self):
        row = ((3, 1), (6, 1))
        right = ("sum", ((1, 1), (1, 1), (0, 1)))
        self.assertIs(shows_in_span(0, self.rows, row, right), True)
        worths = right[1]
        for value in any_values() + [
                list(right), ("sum", list(worths)), ("sum", ([1, 1], (1, 1), (0, 1))), ("sum",), (worths,), worths, right + ((),),
                ("barred", worths), ("Sum", worths), ("sum ", worths), (b"sum", worths), (["sum"], worths), ("", worths),
                ("sum", (1, 1, 0)), ("sum", ((True, 1), (1, 1), (0, 1))), ("sum", ((1, True), (1, 1), (0, 1))),
                ("sum", ((1, 1), (1, 1), (False, 1))), ("sum", ((2, 2), (1, 1), (0, 1))), ("sum", ((1, 1), (1, 1), (0, 2))),
                ("sum", ((-1, -1), (1, 1), (0, 1))), ("sum", ((1, 1), (1, 1), (0, -1))), ("sum", (right,) * 3), (right,),
                {"sum": worths}, ("sum", {0: worths}), ("sum", "111"), ("sum", None), (None, worths), (1, worths), ("sum", ((1, 1), (1, 1), None)),
                ("sum", ((1, 1), (1, 1), (0, 1, 1))), ("sum", ((1, 1), (1, 1), ((0, 1),))), nested(right, 3), "sum"]:
            self.assertIs(shows_in_span(0, self.rows, row, value), False)

    def test_by_a_prime_only_remainders(self):
        rows, row = whole([1, 2]), ((3, 1), (1, 1))
        self.assertIs(shows_in_span(5, rows, row, ("sum", ((3, 1),))), True)
        for factor in ((8, 1), (-2, 1), (3, 2), (1, 2), (5, 1), (6, 2)):
            self.assertIs(shows_in_span(5, rows, row, ("sum", (factor,))), False)
        self.assertIs(shows_in_span(5, rows, ((1, 1), (1, 1)), ("barred", ((3, 1), (1, 1)))), True)
        for places in (((-2, 1), (1, 1)), ((3, 1), (6, 1)), ((8, 1), (1, 1)), ((2, 1), (1, 1)), ((0, 1), (0, 1))):
            self.assertIs(shows_in_span(5, rows, ((1, 1), (1, 1)), ("barred", places)), False)


class Kernel(unittest.TestCase):
    def check(self, by, rows):
        found = kernel(by, rows)
        self.assertIs(type(found), tuple)
        self.assertEqual(len(found), len(rows) - rank(by, rows))
        for relation in found:
            self.assertEqual((type(relation), len(relation)), (tuple, len(rows)))
            self.assertTrue(all(worth == as_worth(by, as_fraction(worth)) for worth in relation))
            self.assertEqual(combined(by, rows, relation), ((0, 1),) * len(rows[0]))
        self.assertEqual(rank(by, found), len(found))
        self.assertIs(shows_kernel(by, rows, found), True)
        self.assertEqual(kernel(by, rows), found)
        return found

    def test_noughts_and_one(self):
        for by in (0, 2, 97):
            self.assertEqual(self.check(by, whole([1])), ())
            self.assertEqual(len(self.check(by, whole([0]))), 1)
            self.assertEqual(len(self.check(by, whole([0], [1], [0]))), 2)
            self.assertEqual(len(self.check(by, (((0, 1),) * 16,) * 16)), 16)
            self.assertEqual(len(self.check(by, (((1, 1),) * 16,) * 16)), 15)
            self.assertEqual(self.check(by, tuple(tuple((int(at == to), 1) for at in range(16)) for to in range(16))), ())

    def test_only_by_the_prime(self):
        rows = whole([1, 2], [3, 1])
        self.assertEqual([len(self.check(by, rows)) for by in (0, 5, 7)], [0, 1, 0])

    def test_drawn(self):
        chance = random.Random(84)
        lengths = set()
        for _ in range(500):
            by = chance.choice(BYS)
            lengths.add(len(self.check(by, draw_matrix(chance, by, chance.choice([1, 2, 3, 5, 8]), chance.choice([1, 2, 3, 5, 8])))))
        self.assertGreater(len(lengths), 5)
        for by in (0, 2, 97):
            self.check(by, draw_matrix(chance, by, 16, 16))
            self.check(by, draw_matrix(chance, by, 16, 3))
            self.check(by, draw_matrix(chance, by, 3, 16))

    def test_shows_any_basis(self):
        rows = whole([1, 2], [2, 4], [3, 6])
        for basis in (([-2, 1, 0], [-3, 0, 1]), ([-3, 0, 1], [-2, 1, 0]), ([1, 1, -1], [0, 3, -2]), ([20, -10, 0], [1, 1, -1])):
            self.assertIs(shows_kernel(0, rows, whole(*basis)), True)
        self.assertIs(shows_kernel(0, rows, (((1, 1), (-1, 2), (0, 1)), ((0, 1), (1, 2), (-1, 3)))), True)
        for basis in (([-2, 1, 0],), ([-2, 1, 0], [-4, 2, 0]), ([-2, 1, 0], [0, 0, 0]), ([-2, 1, 0], [-3, 0, 1], [1, 1, -1]),
                      ([-2, 1, 0], [-3, 0, 2]), ([1, 0, 0], [0, 1, 0]), ([-2, 1], [-3, 0]), ([-2, 1, 0, 0], [-3, 0, 1, 0]), (),
                      ([-2, 1, 0], [-2, 1, 0])):
            self.assertIs(shows_kernel(0, rows, whole(*basis)), False)

    def test_near_values(self):
        rows = whole([1, 2], [2, 4])
        right = (((-2, 1), (1, 1)),)
        self.assertIs(shows_kernel(0, rows, right), True)
        for value in any_values() + [
                list(right), ([(-2, 1), (1, 1)],), (([-2, 1], (1, 1)),), (((-2, 1), (True, 1)),), (((-2, 1), (1, True)),), right[0],
                (((-2, 1), (2, 2)),), (((2, -1), (1, 1)),), right + right, (right,), ((),), ((-2, 1),), (None,), ("ab",), (((-2, 1),),),
                {0: right[0]}, (((-2, 1), (1, 1), (0, 1)),), (((0, 1), (0, 1)),), nested(right, 2), right + ((),), (((-2, 1), 1),)]:
            self.assertIs(shows_kernel(0, rows, value), False)
        self.assertIs(shows_kernel(5, rows, (((3, 1), (1, 1)),)), True)
        for relation in (((-2, 1), (1, 1)), ((3, 1), (6, 1)), ((8, 1), (1, 1)), ((3, 2), (1, 2)), ((2, 1), (1, 1))):
            self.assertIs(shows_kernel(5, rows, (relation,)), False)

    def test_no_relation(self):
        for value in any_values() + [[], ((),), (((0, 1), (0, 1)),), (((1, 1), (0, 1)),), {}, None, "", 0, False]:
            self.assertIs(shows_kernel(0, TWO, value), value == () and type(value) is tuple)

    def test_drawn_values(self):
        chance = random.Random(85)
        right = 0
        for _ in range(400):
            by = chance.choice(BYS)
            rows = draw_matrix(chance, by, 4, 2)
            basis = kernel(by, rows)
            mixed = tuple(combined(by, basis, [draw_worth(chance, by) for _ in basis]) for _ in basis)
            self.assertIs(shows_kernel(by, rows, mixed), rank(by, mixed) == len(basis))
            right += rank(by, mixed) == len(basis)
        self.assertTrue(50 < right < 350, right)


class Determinant(unittest.TestCase):
    def slow(self, by, rows):
        """The sum over all ways to pick a place from each row."""
        total = Fraction(0)
        for places in itertools.permutations(range(len(rows))):
            worth = Fraction(1)
            for row, place in zip(rows, places):
                worth *= as_fraction(row[place])
            total += worth * (-1) ** sum(one > other for one, other in itertools.combinations(places, 2))
        return as_worth(by, total)

    def test_one_and_two(self):
        self.assertEqual(determinant(0, whole([-7])), (-7, 1))
        self.assertEqual(determinant(0, (((2, 3),),)), (2, 3))
        self.assertEqual(determinant(0, whole([0])), (0, 1))
        self.assertEqual(determinant(7, whole([6])), (6, 1))
        self.assertEqual(determinant(0, whole([0, 1], [1, 0])), (-1, 1))
        self.assertEqual(determinant(7, whole([0, 1], [1, 0])), (6, 1))
        self.assertEqual(determinant(2, whole([0, 1], [1, 0])), (1, 1))

    def test_all_sequences_of_places(self):
        for many in (3, 4, 5):
            for places in itertools.permutations(range(many)):
                rows = tuple(tuple((2 if at == place else 0, 1) for at in range(many)) for place in places)
                sign = (-1) ** sum(one > other for one, other in itertools.combinations(places, 2))
                self.assertEqual(determinant(0, rows), (sign * 2 ** many, 1))
                self.assertEqual(determinant(97, rows), (sign * 2 ** many % 97, 1))

    def test_drawn(self):
        chance = random.Random(86)
        noughts = 0
        for _ in range(500):
            by = chance.choice(BYS)
            many = chance.randint(1, 5)
            rows = draw_matrix(chance, by, many, many)
            found = determinant(by, rows)
            self.assertEqual(found, self.slow(by, rows))
            self.assertEqual(found == (0, 1), rank(by, rows) < many)
            self.assertEqual(determinant(by, tuple(zip(*rows))), found)
            noughts += found == (0, 1)
        self.assertTrue(50 < noughts < 450)

    def test_sixteen(self):
        chance = random.Random(87)
        for by in (0, 2, 97):
            for _ in range(4):
                # Ones on the diagonal, noughts on one side of it: what is known comes out of two such.
                lower = [[int(at == to) or (chance.randint(-2, 2) if to < at else 0) for to in range(16)] for at in range(16)]
                upper = [[chance.choice([1, -1, 2, 3]) if at == to else (chance.randint(-2, 2) if to > at else 0) for to in range(16)]
                         for at in range(16)]
                rows = tuple(tuple(as_worth(by, sum(one * other for one, other in zip(row, column))) for column in zip(*upper))
                             for row in lower)
                diagonal = 1
                for at in range(16):
                    diagonal *= upper[at][at]
                self.assertEqual(determinant(by, rows), as_worth(by, diagonal))
                self.assertEqual(determinant(by, rows[::-1]), as_worth(by, diagonal))
                turned = rows[1:2] + rows[:1] + rows[2:]
                self.assertEqual(determinant(by, turned), as_worth(by, -diagonal))
                self.assertEqual(determinant(by, rows[:15] + rows[:1]), (0, 1))

    def test_fractions_come_in_least_terms(self):
        rows = tuple(tuple((1, one + other + 1) for other in range(5)) for one in range(5))
        self.assertEqual(determinant(0, rows), (1, 266716800000))
        for found in (determinant(0, (((1, 2), (1, 3)), ((1, 4), (5, 6)))), determinant(0, (((-1, 2),),))):
            self.assertEqual(gcd(*found), 1)
            self.assertGreater(found[1], 0)


if __name__ == "__main__":
    unittest.main()

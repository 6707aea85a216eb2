"""Section 10: lots, stable families, rows that are told apart, weights of lots, orbits."""

import itertools
import random
import unittest

from opengates.books import Book, renamed, renamings, twins
from opengates.errors import BadBooks, BadLength, BadRow, BadWidth, OtherKinds, OtherLength, TooMany
from opengates.lots import lot_weights, lots, orbits, same_lot, shows_same_lot, shows_stable
from opengates.tables import line_tables
from tests import catalog
from tests.again import fits_again, how_many_rows, is_family_again, is_stable_again, lots_again, near_texts, numbered_rows
from tests.again import rows_again, worths_again
from tests.drawing import as_worth, draw_book, draw_script
from tests.helpers import any_values, expect, expect_very, nested


def partitions(things):
    """All ways to part some things into lots."""
    if not things:
        yield ()
        return
    first, *rest = things
    for found in partitions(rest):
        yield ((first,),) + found
        for at in range(len(found)):
            yield found[:at] + ((first,) + found[at],) + found[at + 1:]


def lot_of(family):
    return {told: (length, at) for length, part in enumerate(family) for at, lot in enumerate(part) for told in lot}


class Coarsest(unittest.TestCase):
    def check(self, books, k):
        found = lots(books, k)
        self.assertEqual(found, lots_again(books, k))
        self.assertTrue(is_family_again(books, k, found))
        self.assertTrue(is_stable_again(books, k, found))
        self.assertIs(shows_stable(books, k, found), True)
        # Rows as they stand, lots by their first rows.
        for length, part in enumerate(found):
            stand = numbered_rows(books, length)
            places = [[stand.index(told) for told in lot] for lot in part]
            self.assertEqual(places, sorted(sorted(lot) for lot in places))
        return found

    def test_one_book(self):
        for book, k in catalog.with_widths():
            self.check((book,), k)

    def test_two_books(self):
        for one, other, k in catalog.pairs(90):
            self.check((one, other), k)

    def test_drawn(self):
        chance = random.Random(100)
        for _ in range(60):
            books = tuple(draw_book(chance, by, chance.randint(1, 3)) for by in [chance.choice((0, 2, 3, 97))] * chance.randint(1, 2))
            for k in (1, 2, 3, 4):
                if how_many_rows(books, k) <= 100:
                    self.check(books, k)

    def test_one_book_twice(self):
        for book in (catalog.SAME, catalog.UNLIKE, catalog.BY_TWO_THREE):
            found = self.check((book, book), 2)
            alone = lots((book,), 2)
            self.assertEqual(found, tuple(
                tuple(lot + tuple((1, row) for _, row in lot) for lot in part) for part in alone))

    def test_the_greatest_numbers_of_rows(self):
        for book, k, many in ((catalog.PATH, 4, 121), (catalog.SQUARE, 3, 85), (catalog.BY_FIVE, 4, 121), (catalog.ONE, 4, 5), (catalog.SAME, 4, 31)):
            self.assertEqual(how_many_rows((book,), k), many)
            self.check((book,), k)
        # 31 and 5 rows, 40 and 85: the most that two books have is 125 rows.
        four = catalog.book(0, [1, 1, 1, 1], "0 1 0 1 1 0 1 0 0 1 0 1 1 0 1 0")
        self.assertEqual(sum(len(lot) for part in self.check((four, catalog.PATH), 3) for lot in part), 125)

    def test_what_a_prime_makes_of_weights(self):
        # Three twins of weight 1 come to 0 by 3, and to 1 by 2.
        for by, heavy in ((0, (3, 1)), (2, (1, 1)), (3, (0, 1)), (5, (3, 1))):
            book = catalog.book(by, [1, 1, 1], "1 1 1 1 1 1 1 1 1")
            self.assertEqual(lot_weights(book, 2, 1), (((("a",), ("b",), ("c",)), heavy),))
        # What is parted by 0 is together by 2: two weights more.
        one, other = catalog.book(0, [1, 1, 1], "1" + " 1" * 8), catalog.book(0, [1], "1")
        self.assertEqual(len(self.check((one, other), 1)[0]), 2)
        one, other = catalog.book(2, [1, 1, 1], "1" + " 1" * 8), catalog.book(2, [1], "1")
        self.assertEqual([len(part) for part in self.check((one, other), 3)], [1, 1, 1, 1])

    def test_marks_whose_weights_come_to_nought_are_as_none(self):
        # By one book a mark leads to a lot with weights 1 and -1, by the other none leads there.
        one, other = catalog.book(0, [1, 1, -1], "1 0 0 0 0 0 0 0 0"), catalog.book(0, [1], "1")
        self.assertEqual([len(part) for part in self.check((one, other), 1)], [1, 2])

    def test_lots_for_greater_widths_are_within(self):
        for book in catalog.BOOKS:
            for k in (1, 2, 3):
                if how_many_rows((book,), k + 1) <= 130:
                    wide, narrow = lots((book,), k + 1), lot_of(lots((book,), k))
                    for part in wide[:k + 1]:
                        for lot in part:
                            self.assertEqual(len({narrow[told] for told in lot}), 1)

    def test_other_names_change_nothing_else(self):
        for book in (catalog.PATH, catalog.ROUND, catalog.BY_FIVE):
            names = dict(zip(book.marks, ("zz", "q", "abc", "d")))
            other = renamed(book, tuple(names[mark] for mark in book.marks))
            told = tuple(tuple(tuple((number, tuple(names[mark] for mark in row)) for number, row in lot) for lot in part)
                         for part in lots((book,), 3))
            self.assertEqual(lots((other,), 3), told)

    def test_every_line_has_one_worth_on_each_lot(self):
        chance = random.Random(101)
        seen = 0
        for _ in range(150):
            book = draw_book(chance, chance.choice((0, 0, 2, 3, 97)), chance.randint(2, 3))
            k = chance.randint(1, 3)
            lot_by_row = lot_of(lots((book,), k))
            script = draw_script(chance, among=tuple(range(1, k + 1)), lines=14)
            for name, worths in line_tables(book, script):
                rows = rows_again(book, len(script.gates_of(name)))
                told = {}
                for row, worth in zip(rows, worths):
                    self.assertEqual(told.setdefault(lot_by_row[0, row], worth), worth)
                seen += len(told) < len(rows)
        self.assertGreater(seen, 50)


class AllFamilies(unittest.TestCase):
    def test_all_families_of_few_rows(self):
        many = []
        small = [((catalog.SAME,), 2), ((catalog.ODD,), 2), ((catalog.LED,), 2), ((catalog.ALL_TWINS,), 2), ((catalog.BY_TWO,), 2),
                 ((catalog.LOPSIDED,), 2), ((catalog.PATH,), 1), ((catalog.NOUGHT,), 1), ((catalog.ONE,), 4),
                 ((catalog.ONE, catalog.ONE), 4), ((catalog.ONE, catalog.ONE_TOO), 2), ((catalog.SAME, catalog.ODD), 1),
                 ((catalog.EQUAL, catalog.ALL_TWINS), 1), ((catalog.ONE, catalog.ALL_TWINS), 1), ((catalog.BY_TWO_ONE, catalog.BY_TWO), 1)]
        for books, k in small:
            coarsest = lot_of(lots(books, k))
            stable = 0
            for family in itertools.product(*[partitions(numbered_rows(books, length)) for length in range(k + 1)]):
                right = is_stable_again(books, k, family)
                self.assertIs(shows_stable(books, k, family), right)
                stable += right
                if right:
                    for part in family:
                        for lot in part:
                            self.assertEqual(len({coarsest[told] for told in lot}), 1)
            many.append(stable)
        self.assertTrue(all(many) and max(many) > 4, many)


class NearFamilies(unittest.TestCase):
    def check(self, books, k, value):
        right = is_family_again(books, k, value) and is_stable_again(books, k, value)
        self.assertIs(shows_stable(books, k, value), right, value)
        return right

    def near(self, chance, family):
        """Families near one: a row moved, lots cut, joined, rows out and twice, at other lengths."""
        for length, part in enumerate(family):
            def with_part(other):
                return family[:length] + (other,) + family[length + 1:]
            for at, lot in enumerate(part):
                rest = part[:at] + part[at + 1:]
                yield with_part(rest)
                yield with_part(part + (lot,))
                yield with_part(rest + (lot[1:],))
                yield with_part(rest + (lot[1:],) if len(lot) > 1 else rest + (lot, ()))
                yield with_part(rest + (lot + lot[:1],))
                yield with_part(rest + (lot[::-1],))
                yield with_part(rest + (lot[:1], lot[1:]) if len(lot) > 1 else rest + (lot,))
                yield with_part(rest + (list(lot),))
                yield with_part(rest + (lot[:-1] + (list(lot[-1]),),))
                yield with_part(rest + (lot[:-1] + ((lot[-1][0], list(lot[-1][1])),),))
                yield with_part(rest + (lot[:-1] + ((bool(lot[-1][0]), lot[-1][1]),),))
                yield with_part(rest + (lot[:-1] + ((1 - lot[-1][0], lot[-1][1]),),))
                yield with_part(rest + (lot[:-1] + (lot[-1] + (0,),),))
                yield with_part(rest + (lot[:-1] + ((lot[-1][0], lot[-1][1] + ("a",)),),))
                yield with_part(rest + (lot[:-1] + ((lot[-1][0], ("zz",) * length),),))
                yield with_part(rest + (lot[:-1] + ((lot[-1][0], "".join(lot[-1][1])),),))
                if rest:
                    other = chance.choice(rest)
                    left = tuple(its for its in rest if its != other)
                    yield with_part(left + (lot + other,))
                    yield with_part(left + (lot[1:], other + lot[:1]) if len(lot) > 1 else left + (other + lot,))
            yield with_part(part[::-1])
            yield with_part(list(part))
            yield with_part(tuple(tuple([told]) for lot in part for told in lot))
        yield family[:-1]
        yield family + ((),)
        yield family + family[-1:]
        yield family[::-1]
        yield list(family)

    def test_near_values(self):
        chance = random.Random(102)
        right = wrong = 0
        for books, k in (((catalog.PATH,), 2), ((catalog.ODD,), 2), ((catalog.ALL_TWINS, catalog.ONE), 2), ((catalog.SAME, catalog.SAME), 2),
                         ((catalog.BY_THREE,), 2), ((catalog.SQUARE,), 2), ((catalog.BY_FIVE_FOUR,), 1), ((catalog.ONE,), 3)):
            for value in self.near(chance, lots(books, k)):
                if self.check(books, k, value):
                    right += 1
                else:
                    wrong += 1
        self.assertTrue(right > 30 and wrong > 300, (right, wrong))

    def test_finer_ones_are_stable_too(self):
        for book in (catalog.SAME, catalog.PATH, catalog.ROUND, catalog.BY_THREE):
            finest = tuple(tuple((told,) for told in numbered_rows((book,), length)) for length in range(3))
            self.assertTrue(self.check((book,), 2, finest))
            if len(renamings(book, book)) > 1:
                self.assertNotEqual(finest, lots((book,), 2))

    def test_orbits_make_a_stable_family(self):
        for book in catalog.BOOKS:
            k = 2 if len(book) == 4 else 3
            family = tuple(tuple(tuple((0, row) for row in lot) for lot in orbits(book, length)) for length in range(k + 1))
            self.assertTrue(self.check((book,), k, family))

    def test_values_of_every_kind(self):
        right = lots((catalog.SAME,), 1)
        for value in any_values() + [(), ((),), ((), ()), (right,), right[0], right[1], {0: right[0]}, nested(right, 2), (right[0], None),
                                     (None, right[1]), ("", ""), (((),), ((),)), (((None,),), right[1]), ((((),),), right[1]),
                                     (((0,),), right[1]), ((((0, None),),), right[1]), ((((None, ()),),), right[1]), ((((0.0, ()),),), right[1]),
                                     (((([], ()),),), right[1]), ((((0, []),),), right[1]), ((((0, {}),),), right[1]), ((((0, ([],)),),), right[1])]:
            self.assertIs(shows_stable((catalog.SAME,), 1, value), False)
        self.assertIs(shows_stable((catalog.SAME,), 1, right), True)
        # True is not 1, not even as the number of a book.
        two = lots((catalog.ONE, catalog.ONE), 1)
        turned = tuple(tuple(tuple((bool(number), row) for number, row in lot) for lot in part) for part in two)
        self.assertEqual(turned, two)
        self.assertEqual([shows_stable((catalog.ONE, catalog.ONE), 1, value) for value in (two, turned)], [True, False])


class SameLot(unittest.TestCase):
    def check(self, book, k, one, other, together):
        found = same_lot(book, k, one, other)
        self.assertEqual((type(found), len(found)), (tuple, 2))
        self.assertIs(shows_same_lot(book, k, one, other, found), True)
        if together:
            self.assertEqual(found[0], "same")
            self.assertTrue(is_family_again((book,), k, found[1]) and is_stable_again((book,), k, found[1]))
            where = lot_of(found[1])
            self.assertEqual(where[0, one], where[0, other])
            return found
        self.assertEqual(found[0], "parts")
        self.assertTrue(fits_again(book, k, range(1, len(one) + 1), found[1]))
        worths = dict(zip(rows_again(book, len(one)), worths_again(book, found[1])))
        self.assertEqual((worths[one], worths[other]), ((1, 1), (0, 1)))
        if one != other:
            self.assertIs(shows_same_lot(book, k, other, one, found), False)
        return found

    def test_all_rows_of_some_books(self):
        for book, k in [(book, k) for book, k in catalog.with_widths(45)]:
            where = lot_of(lots_again((book,), k))
            for length in range(k + 1):
                rows = rows_again(book, length)
                for one in rows:
                    for other in rows if len(rows) < 10 else rows[::5]:
                        self.check(book, k, one, other, where[0, one] == where[0, other])

    def test_drawn(self):
        chance = random.Random(103)
        for _ in range(200):
            book = draw_book(chance, chance.choice((0, 2, 3, 5, 97)), chance.randint(1, 4))
            k = chance.randint(1, 3)
            m = chance.randint(0, k)
            where = lot_of(lots_again((book,), k))
            one, other = [tuple(chance.choice(book.marks) for _ in range(m)) for _ in range(2)]
            self.check(book, k, one, other, where[0, one] == where[0, other])

    def test_what_the_other_side_would_tell_is_not_shown(self):
        text = "script\no = one 1\nx = road k 1 2\ny = close 2 x\nz = add 2 o -1 y"
        path = catalog.PATH
        self.assertIs(shows_same_lot(path, 2, ("a",), ("b",), ("parts", text)), True)
        self.assertIs(shows_same_lot(path, 2, ("a",), ("c",), ("parts", text)), False)
        self.assertIs(shows_same_lot(path, 1, ("a",), ("b",), ("parts", text)), False)
        for k in (1, 2):
            family = lots((path,), k)
            for one, other in itertools.product(rows_again(path, 1), repeat=2):
                together = lot_of(family)[0, one] == lot_of(family)[0, other]
                self.assertIs(shows_same_lot(path, k, one, other, ("same", family)), together)
        # A finer family has both in one lot as well, if it is stable; one of another width, or of other books, has not.
        finer = tuple(tuple(tuple((0, row) for row in lot) for lot in orbits(path, length)) for length in range(3))
        self.assertIs(shows_same_lot(path, 2, ("a",), ("c",), ("same", finer)), True)
        self.assertIs(shows_same_lot(path, 2, ("a",), ("c",), ("same", lots((path,), 1))), False)
        self.assertIs(shows_same_lot(path, 1, ("a",), ("c",), ("same", lots((path,), 2))), False)
        self.assertIs(shows_same_lot(path, 2, ("a",), ("c",), ("same", lots((path, path), 2))), False)
        finest = tuple(tuple((told,) for told in numbered_rows((path,), length)) for length in range(3))
        self.assertIs(shows_same_lot(path, 2, ("a",), ("c",), ("same", finest)), False)
        self.assertIs(shows_same_lot(path, 2, ("a",), ("a",), ("same", finest)), True)

    def test_near_texts(self):
        right = wrong = 0
        for book, k, one, other in ((catalog.PATH, 2, ("a",), ("b",)), (catalog.LOPSIDED, 2, ("a",), ("b",)), (catalog.BY_FIVE, 2, ("a", "b"), ("b", "a")),
                                    (catalog.LED, 2, ("a", "b"), ("b", "a")), (catalog.BY_THREE, 2, ("a", "a"), ("a", "b")),
                                    (catalog.UNLIKE, 1, ("a",), ("c",))):
            texts = [same_lot(book, k, one, other)[1]]
            for text in texts + near_texts(texts[0]):
                fits = fits_again(book, k, range(1, len(one) + 1), text)
                worths = dict(zip(rows_again(book, len(one)), worths_again(book, text))) if fits else None
                shown = fits and worths[one] == (1, 1) and worths[other] == (0, 1)
                self.assertIs(shows_same_lot(book, k, one, other, ("parts", text)), shown, text)
                right += shown
                wrong += not shown
                self.assertIs(shows_same_lot(book, k, one, other, ("same", text)), False)
        self.assertTrue(right > 30 and wrong > 200, (right, wrong))

    def test_values_of_every_kind(self):
        path, family = catalog.PATH, lots((catalog.PATH,), 2)
        text = same_lot(path, 2, ("a",), ("b",))[1]
        for value in any_values():
            for told in (value, ("parts", value), ("same", value), (value, text), (value, family), ("parts", text, value), (value,)):
                self.assertIs(shows_same_lot(path, 2, ("a",), ("b",), told), False)
                self.assertIs(shows_same_lot(path, 2, ("a",), ("c",), told), False)
        for told in (["parts", text], ("parts", (text,)), ("Parts", text), ("parts",), ("same",), ("parts", text.encode()), (("parts",), text)):
            self.assertIs(shows_same_lot(path, 2, ("a",), ("b",), told), False)
        for told in (["same", family], ("same", list(family)), ("Same", family), (True, family), ("same", (family,)), family):
            self.assertIs(shows_same_lot(path, 2, ("a",), ("c",), told), False)


class LotWeightsAndOrbits(unittest.TestCase):
    def test_lot_weights(self):
        for book, k in catalog.with_widths():
            family = lots_again((book,), k)
            for m in range(k + 1):
                wanted = []
                for lot in family[m]:
                    total = 0
                    for _, row in lot:
                        weight = 1
                        for mark in row:
                            weight *= book.weight(mark)
                        total += weight
                    wanted.append((tuple(row for _, row in lot), as_worth(book.by, total)))
                self.assertEqual(lot_weights(book, k, m), tuple(wanted))

    def test_orbits(self):
        for book in catalog.BOOKS:
            for m in range(5):
                if how_many_rows((book,), m) > 130:
                    expect(self, TooMany, how_many_rows((book,), m), orbits, book, m)
                    continue
                rows = rows_again(book, m)
                led = {row: {tuple(dict(zip(book.marks, names))[mark] for mark in row) for names in renamings(book, book)} for row in rows}
                wanted = []
                for row in rows:
                    if not any(row in lot for lot in wanted):
                        wanted.append(tuple(its for its in rows if its in led[row]))
                self.assertEqual(orbits(book, m), tuple(wanted))

    def test_orbits_are_within_lots(self):
        for book, k in catalog.with_widths():
            where = lot_of(lots((book,), k))
            for m in range(k + 1):
                for lot in orbits(book, m):
                    self.assertEqual(len({where[0, row] for row in lot}), 1)

    def test_lots_are_orbits_from_the_number_of_marks_on(self):
        chance = random.Random(104)
        seen = 0
        for _ in range(150):
            book = draw_book(chance, 0, chance.randint(1, 3), above=True)
            if len(twins(book)) < len(book):
                continue
            for k in range(len(book), 5):
                for m in range(k + 1):
                    self.assertEqual(tuple(tuple(row for _, row in lot) for lot in lots((book,), k)[m]), orbits(book, m))
            seen += len(renamings(book, book)) > 1
        for book in (catalog.SAME, catalog.LOPSIDED, catalog.COLOURS, catalog.ROUND, catalog.TWO_KINDS):
            for m in range(4):
                self.assertEqual(tuple(tuple(row for _, row in lot) for lot in lots((book,), 3)[m]), orbits(book, m))


WIDTHS = any_values() + [0, 5, -1, 10 ** 30, True, "2", (2,), [2], 2 * (1,)]


class Errors(unittest.TestCase):
    def test_bad_books(self):
        good = catalog.SAME
        for value in any_values() + [good, (), [good], (good, good, good), (good, None), (None, good), (good, "book 0"), ((good,),), [good, good], {good.text: good}]:
            for k in (1, None, 9):
                expect_very(self, BadBooks, value, lots, value, k)
                expect_very(self, BadBooks, value, shows_stable, value, k, None)

    def test_other_kinds_then_bad_width_then_too_many(self):
        for one, other in ((catalog.SAME, catalog.BY_TWO), (catalog.SAME, catalog.TWO_KINDS), (catalog.PATH, renamed_kind(catalog.PATH)),
                           (catalog.SQUARE, catalog.BY_FIVE_FOUR)):
            for k in (1, 4, None, 0):
                expect_very(self, OtherKinds, other, lots, (one, other), k)
                expect_very(self, OtherKinds, other, shows_stable, (one, other), k, ())
        for k in WIDTHS:
            if type(k) is not int or not 1 <= k <= 4:
                for books in ((catalog.SQUARE,), (catalog.SQUARE, catalog.SQUARE)):
                    expect_very(self, BadWidth, k, lots, books, k)
                    expect_very(self, BadWidth, k, shows_stable, books, k, lots(books, 1))

    def test_too_many(self):
        for books, k, many in (((catalog.SQUARE,), 4, 341), ((catalog.SQUARE, catalog.SQUARE), 3, 170), ((catalog.PATH, catalog.PATH), 4, 242),
                               ((catalog.SQUARE, catalog.ONE), 4, 346), ((catalog.PATH, catalog.SAME), 4, 152)):
            expect(self, TooMany, many, lots, books, k)
            expect(self, TooMany, many, shows_stable, books, k, None)
        for k, m, one, other in ((4, 0, (), ()), (4, 9, None, 0)):
            expect(self, TooMany, 341, same_lot, catalog.SQUARE, k, one, other)
            expect(self, TooMany, 341, shows_same_lot, catalog.SQUARE, k, one, other, None)
            expect(self, TooMany, 341, lot_weights, catalog.SQUARE, k, m)
        self.assertEqual(len(lots((catalog.PATH, catalog.ONE), 4)), 5)

    def test_rows(self):
        for k in (1, 2, 4):
            for row in any_values() + [("z",), ("a", 1), ["a"], ("a",) * (k + 1), (("a",),), "a", ("ab",), (None,)]:
                if type(row) is tuple and len(row) <= k and all(mark in ("a", "b") for mark in row):
                    continue
                for other in ((), ("a",), ("z",), None, row):
                    expect_very(self, BadRow, row, same_lot, catalog.SAME, k, row, other)
                    expect_very(self, BadRow, row, shows_same_lot, catalog.SAME, k, row, other, None)
                for one in ((), ("a",)):
                    expect_very(self, BadRow, row, same_lot, catalog.SAME, k, one, row)
                    expect_very(self, BadRow, row, shows_same_lot, catalog.SAME, k, one, row, None)
        for k in WIDTHS:
            if type(k) is not int or not 1 <= k <= 4:
                expect_very(self, BadWidth, k, same_lot, catalog.SQUARE, k, None, None)
                expect_very(self, BadWidth, k, shows_same_lot, catalog.SQUARE, k, None, None, None)
                expect_very(self, BadWidth, k, lot_weights, catalog.SQUARE, k, None)

    def test_lengths(self):
        for one, other, lengths in (((), ("a",), (0, 1)), (("a", "b"), ("a",), (2, 1)), (("a",), (), (1, 0))):
            expect(self, OtherLength, lengths, same_lot, catalog.SAME, 2, one, other)
            expect(self, OtherLength, lengths, shows_same_lot, catalog.SAME, 2, one, other, ("same", ()))
        for m in any_values() + [-1, 5, True, "0", (0,), 10 ** 30]:
            if type(m) is not int or not 0 <= m <= 4:
                expect_very(self, BadLength, m, orbits, catalog.SQUARE, m)
                expect_very(self, BadLength, m, lot_weights, catalog.SAME, 4, m)
            if type(m) is not int or not 0 <= m <= 1:
                expect_very(self, BadLength, m, lot_weights, catalog.SAME, 1, m)
        expect(self, TooMany, 341, orbits, catalog.SQUARE, 4)
        self.assertEqual(len(orbits(catalog.PATH, 4)), 41)


def renamed_kind(book):
    return Book(book.text.replace("kind k", "kind kk"))


if __name__ == "__main__":
    unittest.main()

"""Section 11: functions of marks that scripts tell, pure ones, and those that span all."""

import itertools
import random
import unittest
from fractions import Fraction

from opengates.errors import BadLength, BadRow, BadWidth, BadWorths, TooMany
from opengates.lots import lots
from opengates.made import made, pure, shows_made, shows_pure, shows_spanning, spanning
from opengates.scripts import Script
from opengates.tables import table
from tests import catalog
from tests.again import fits_again, lots_again, near_texts, rank_again, rows_again, worths_again
from tests.drawing import as_worth, draw_book, draw_script
from tests.helpers import any_values, expect, expect_very, nested

NUMBERS = (0, 0, 1, 1, -1, 2, Fraction(1, 7), Fraction(-5, 11))


def lots_of(book, k, m):
    """The lots of length m, of rows without numbers."""
    return [[row for _, row in lot] for lot in lots_again((book,), k)[m]]


def on_lots(book, k, m, worths):
    """The function of m marks that has these worths on the lots, one behind the other."""
    told = {row: worth for lot, worth in zip(lots_of(book, k, m), worths) for row in lot}
    return tuple(told[row] for row in rows_again(book, m))


def draw_worth(chance, by):
    return (chance.randrange(by), 1) if by else as_worth(0, chance.choice(NUMBERS))


class Made(unittest.TestCase):
    def check(self, book, k, m, worths):
        found = made(book, k, m, worths)
        self.assertIs(type(found), tuple)
        self.assertIs(shows_made(book, k, m, worths, found), True)
        told = dict(zip(rows_again(book, m), worths))
        same = all(len({told[row] for row in lot}) == 1 for lot in lots_of(book, k, m))
        if same:
            word, text = found
            self.assertEqual(word, "script")
            self.assertTrue(fits_again(book, k, range(1, m + 1), text))
            self.assertEqual(worths_again(book, text), worths)
        else:
            word, one, other = found
            self.assertEqual(word, "rows")
            self.assertTrue(any(one in lot and other in lot for lot in lots_of(book, k, m)))
            self.assertNotEqual(told[one], told[other])
        return found

    def test_functions_that_are_the_same_on_lots(self):
        chance = random.Random(110)
        for book, k in catalog.with_widths(90):
            for m in range(k + 1):
                many = len(lots_of(book, k, m))
                for _ in range(2):
                    found = self.check(book, k, m, on_lots(book, k, m, [draw_worth(chance, book.by) for _ in range(many)]))
                    self.assertEqual(found[0], "script")
                for worth in ((0, 1), (1, 1)):
                    self.assertEqual(self.check(book, k, m, on_lots(book, k, m, [worth] * many))[0], "script")

    def test_all_functions_of_noughts_and_ones(self):
        for book, k, m in ((catalog.SAME, 2, 2), (catalog.LOPSIDED, 1, 1), (catalog.LOPSIDED, 2, 2), (catalog.ODD, 2, 2), (catalog.PATH, 2, 1),
                           (catalog.BY_TWO, 2, 2), (catalog.BY_TWO_THREE, 3, 1), (catalog.BY_FIVE, 2, 1), (catalog.ONE, 4, 4), (catalog.SQUARE, 2, 1)):
            words = set()
            for worths in itertools.product(((0, 1), (1, 1)), repeat=len(book) ** m):
                words.add(self.check(book, k, m, worths)[0])
            self.assertIn("script", words)

    def test_drawn(self):
        chance = random.Random(111)
        words = []
        for _ in range(200):
            book = draw_book(chance, chance.choice((0, 0, 2, 3, 5, 97)), chance.randint(1, 4))
            book = chance.choice((book, chance.choice(catalog.BOOKS)))
            k = chance.randint(1, 3)
            m = chance.randint(0, k)
            worths = on_lots(book, k, m, [draw_worth(chance, book.by) for _ in lots_of(book, k, m)])
            if chance.random() < 0.6:
                at = chance.randrange(len(worths))
                other = as_worth(book.by, Fraction(*worths[at]) + 1)
                worths = worths[:at] + (other,) + worths[at + 1:]
            words.append(self.check(book, k, m, worths)[0])
        self.assertTrue(words.count("rows") > 10 and words.count("script") > 50)

    def test_what_scripts_tell_is_made(self):
        chance = random.Random(112)
        for _ in range(120):
            book = draw_book(chance, chance.choice((0, 0, 2, 3, 97)), chance.randint(1, 3))
            k = chance.randint(1, 3)
            m = chance.randint(0, k)
            script = draw_script(chance, gates=tuple(range(1, m + 1)), among=tuple(range(1, k + 1)))
            worths = table(book, script).worths
            self.assertEqual(self.check(book, k, m, worths)[0], "script")
            self.assertIs(shows_made(book, k, m, worths, ("script", script.text)), True)

    def test_great_numbers(self):
        great, small = (10 ** 999 + 7, 3), (-1, 10 ** 999 + 9)
        self.check(catalog.LOPSIDED, 2, 1, (great, small))
        self.check(catalog.SAME, 2, 2, (great, small, small, great))
        self.check(catalog.SAME, 2, 1, (great, small))
        # What was told may be handed in again, however great its numbers are.
        script = Script(made(catalog.LOPSIDED, 2, 1, (great, small))[1])
        for more in (script * script, script * script * (script + script)):
            worths = table(catalog.LOPSIDED, more).worths
            self.assertEqual(made(catalog.LOPSIDED, 2, 1, (worths[0], (1, 1)))[0], "script")
            found = made(catalog.LOPSIDED, 2, 1, (worths[0], (-1, 2 ** 5000)))
            self.assertIs(shows_made(catalog.LOPSIDED, 2, 1, (worths[0], (-1, 2 ** 5000)), found), True)
        for great in ((10 ** 1000, 1), (10 ** 1000 - 1, 1), (-10 ** 1000, 10 ** 1000 - 1), (1, 10 ** 1000), (-1, 10 ** 1000 - 1), (7 ** 9000, 6 ** 2001),
                      (5, 6 ** 1286), (-3, 2 * (10 ** 600 + 7) ** 4), (5 ** 3000, 2 ** 3321)):
            worths = (great, (1, 3))
            self.assertIs(shows_made(catalog.LOPSIDED, 2, 1, worths, made(catalog.LOPSIDED, 2, 1, worths)), True)
            self.assertEqual(table(catalog.LOPSIDED, Script(made(catalog.LOPSIDED, 2, 1, worths)[1])).worths, worths)
        worths = table(catalog.LOPSIDED, script * script).worths
        self.assertIs(shows_made(catalog.LOPSIDED, 2, 1, worths, made(catalog.LOPSIDED, 2, 1, worths)), True)

    def test_near_texts(self):
        right = wrong = 0
        for book, k, m, worths in ((catalog.LOPSIDED, 2, 1, ((2, 1), (-1, 3))), (catalog.SAME, 2, 2, ((1, 1), (0, 1), (0, 1), (1, 1))),
                                   (catalog.BY_FIVE, 2, 1, ((1, 1), (4, 1), (0, 1))), (catalog.ONE, 1, 0, ((2, 1),)),
                                   (catalog.PATH, 2, 1, ((1, 1), (0, 1), (1, 1))), (catalog.TWO_KINDS, 2, 1, ((1, 1), (1, 1)))):
            word, text = made(book, k, m, worths)
            self.assertEqual(word, "script")
            for near in [text] + near_texts(text):
                shown = fits_again(book, k, range(1, m + 1), near) and worths_again(book, near) == worths
                self.assertIs(shows_made(book, k, m, worths, ("script", near)), shown, near)
                self.assertIs(shows_made(book, k, m, worths, ("rows", near)), False)
                right += shown
                wrong += not shown
        self.assertTrue(right > 40 and wrong > 200, (right, wrong))

    def test_rows(self):
        for book, k, m in ((catalog.SAME, 2, 1), (catalog.PATH, 2, 2), (catalog.BY_THREE, 2, 2), (catalog.LOPSIDED, 1, 1)):
            rows = rows_again(book, m)
            for worths in (tuple((at % book.by if book.by else at, 1) for at in range(len(rows))), on_lots(book, k, m, [(1, 1)] * len(lots_of(book, k, m)))):
                told = dict(zip(rows, worths))
                for one, other in itertools.product(rows, repeat=2):
                    right = any(one in lot and other in lot for lot in lots_of(book, k, m)) and told[one] != told[other]
                    self.assertIs(shows_made(book, k, m, worths, ("rows", one, other)), right)
                    for value in (["rows", one, other], ("rows", (one, other)), ("rows", one), ("rows", one, other, ()), ("Rows", one, other),
                                  ("rows", list(one), other), ("rows", one, other[:-1]), ("rows", one + one, other + other), ("script", one, other),
                                  ("rows", "".join(one), "".join(other)), ("rows", None, None), (one, other)):
                        self.assertIs(shows_made(book, k, m, worths, value), False)

    def test_values_of_every_kind(self):
        text = made(catalog.LOPSIDED, 2, 1, ((2, 1), (3, 1)))[1]
        for value in any_values():
            if value == "script":
                continue
            for told in (value, ("script", value), ("rows", value, value), (value, text), ("script", text, value), ("rows", ("a",), value), (value,)):
                self.assertIs(shows_made(catalog.LOPSIDED, 2, 1, ((2, 1), (3, 1)), told), False)
        for told in (["script", text], ("script", (text,)), text, ("script",), ("Script", text), nested(("script", text), 1), {"script": text}):
            self.assertIs(shows_made(catalog.LOPSIDED, 2, 1, ((2, 1), (3, 1)), told), False)

    def test_just_one_of_both_is_shown(self):
        for book, k in catalog.with_widths(21):
            for m in range(k + 1):
                worths = tuple((at % book.by if book.by else at, 1) for at in range(len(book) ** m))
                found = made(book, k, m, worths)
                if found[0] == "rows":
                    for near in spanning(book, k, m):
                        self.assertIs(shows_made(book, k, m, worths, ("script", near)), False)
                else:
                    for one, other in itertools.product(rows_again(book, m), repeat=2):
                        self.assertIs(shows_made(book, k, m, worths, ("rows", one, other)), False)


class Pure(unittest.TestCase):
    def wanted(self, book, k, row):
        lot = next(lot for lot in lots_of(book, k, len(row)) if row in lot)
        return tuple((int(its in lot), 1) for its in rows_again(book, len(row)))

    def test_all_rows(self):
        for book, k in catalog.with_widths(90):
            for m in range(k + 1):
                rows = rows_again(book, m)
                for row in rows if len(rows) < 17 else rows[::7]:
                    text = pure(book, k, row)
                    self.assertTrue(fits_again(book, k, range(1, m + 1), text))
                    self.assertEqual(worths_again(book, text), self.wanted(book, k, row))
                    self.assertIs(shows_pure(book, k, row, text), True)

    def test_each_lot_has_its_own(self):
        for book, k in ((catalog.PATH, 2), (catalog.LOPSIDED, 3), (catalog.BY_TWO_THREE, 3), (catalog.SQUARE, 2)):
            for m in range(k + 1):
                texts = {row: pure(book, k, row) for row in rows_again(book, m)}
                for one, other in itertools.product(texts, repeat=2):
                    self.assertIs(shows_pure(book, k, one, texts[other]), self.wanted(book, k, one) == self.wanted(book, k, other))

    def test_near_texts(self):
        right = wrong = 0
        for book, k, row in ((catalog.LOPSIDED, 2, ("b",)), (catalog.LED, 2, ("b", "a")), (catalog.BY_FIVE, 1, ("c",)), (catalog.SAME, 2, ()),
                             (catalog.SAME, 2, ("a",)), (catalog.PATH, 2, ("b", "b")), (catalog.BY_TWO, 2, ("a", "b"))):
            text = pure(book, k, row)
            for near in [text] + near_texts(text):
                shown = fits_again(book, k, range(1, len(row) + 1), near) and worths_again(book, near) == self.wanted(book, k, row)
                self.assertIs(shows_pure(book, k, row, near), shown, near)
                right += shown
                wrong += not shown
        self.assertTrue(right > 40 and wrong > 200, (right, wrong))

    def test_values_of_every_kind(self):
        text = pure(catalog.LOPSIDED, 2, ("a",))
        for value in any_values() + [(text,), [text], ("script", text), {text: text}, text.encode()]:
            self.assertIs(shows_pure(catalog.LOPSIDED, 2, ("a",), value), False)


class Spanning(unittest.TestCase):
    def right(self, book, k, m, value):
        """Whether a value is what spanning tells, by its own working out."""
        if type(value) is not tuple or len(value) != len(lots_of(book, k, m)):
            return False
        if not all(fits_again(book, k, range(1, m + 1), text) for text in value):
            return False
        return rank_again(book.by, [worths_again(book, text) for text in value]) == len(value)

    def test_all(self):
        for book, k in catalog.with_widths(90):
            for m in range(k + 1):
                found = spanning(book, k, m)
                if len(found) < 20:
                    self.assertTrue(self.right(book, k, m, found))
                self.assertEqual((type(found), len(found)), (tuple, len(lots_of(book, k, m))))
                self.assertIs(shows_spanning(book, k, m, found), True)
                self.assertIs(shows_spanning(book, k, m, found[::-1]), True)
                for value in (found[1:], found + found[:1], found[:-1] + found[:1] if len(found) > 1 else (), list(found), (found,)):
                    self.assertIs(shows_spanning(book, k, m, value), False)

    def test_the_most_lots(self):
        # All rows of three marks are told apart: 81 of four marks.
        book = catalog.book(0, [1, 1, 1], "1 0 0 0 2 0 0 0 3")
        found = spanning(book, 4, 4)
        self.assertEqual(len(found), 81)
        self.assertIs(shows_spanning(book, 4, 4, found), True)
        self.assertIs(shows_spanning(book, 4, 4, found[1:] + found[1:2]), False)

    def test_others_that_span(self):
        lone, loops, led = "script\nx = one 1", "script\nx = road k 1 1", "script\ny = road k 1 2\nz = close 2 y"
        for book, k in ((catalog.LOPSIDED, 2), (catalog.UNLIKE, 2), (catalog.BY_FIVE, 1), (catalog.SAME, 2), (catalog.PATH, 2), (catalog.BY_THREE_ODD, 2)):
            for value in itertools.product((lone, loops, led, "script\nx = one 1\ny = add 0 x", "script\nx = one 1\ny = add 2 x"), repeat=2):
                for told in (value, value[:1], value + (loops,), value + ("script\nx = road k 1 1\ny = x * x",)):
                    self.assertIs(shows_spanning(book, k, 1, told), self.right(book, k, 1, told))

    def test_near_values(self):
        right = wrong = 0
        for book, k, m in ((catalog.LOPSIDED, 2, 1), (catalog.SAME, 2, 2), (catalog.BY_FIVE, 1, 1)):
            found = spanning(book, k, m)
            for at, text in enumerate(found):
                for near in near_texts(text):
                    value = found[:at] + (near,) + found[at + 1:]
                    shown = self.right(book, k, m, value)
                    self.assertIs(shows_spanning(book, k, m, value), shown)
                    right += shown
                    wrong += not shown
                for near in any_values():
                    self.assertIs(shows_spanning(book, k, m, found[:at] + (near,) + found[at + 1:]), False)
        self.assertTrue(right > 40 and wrong > 100, (right, wrong))
        for value in any_values():
            self.assertIs(shows_spanning(catalog.SAME, 2, 2, value), False)


class Errors(unittest.TestCase):
    def calls(self, book, k, m):
        return [(made, book, k, m, None), (shows_made, book, k, m, None, None), (spanning, book, k, m), (shows_spanning, book, k, m, ()),
                (made, book, k, m, ((0, 1),)), (shows_made, book, k, m, (), ("script", "script"))]

    def test_width_then_rows_then_length(self):
        for k in any_values() + [0, 5, -1, True, "1", (1,)]:
            if type(k) is int and 1 <= k <= 4:
                continue
            for m in (0, None, 9):
                for call, *arguments in self.calls(catalog.SQUARE, k, m):
                    expect_very(self, BadWidth, k, call, *arguments)
            for call, *arguments in ((pure, catalog.SQUARE, k, None), (shows_pure, catalog.SQUARE, k, None, None)):
                expect_very(self, BadWidth, k, call, *arguments)
        for m in (0, 4, None, 9):
            for call, *arguments in self.calls(catalog.SQUARE, 4, m):
                expect(self, TooMany, 341, call, *arguments)
        for call, *arguments in ((pure, catalog.SQUARE, 4, None), (shows_pure, catalog.SQUARE, 4, None, None)):
            expect(self, TooMany, 341, call, *arguments)
        for m in any_values() + [-1, 3, True, "1", (1,)]:
            if type(m) is not int or not 0 <= m <= 2:
                for call, *arguments in self.calls(catalog.SQUARE, 2, m):
                    expect_very(self, BadLength, m, call, *arguments)

    def test_worths(self):
        good = ((1, 1), (1, 2))
        for value in any_values() + [(), good[:1], good + good[:1], list(good), ((1, 1), [1, 2]), ((1, 1), (2, 4)), ((1, 1), (1, -2)), ((1, 1), (1, 0)),
                                     ((True, 1), (1, 2)), ((1, True), (1, 2)), ((1, 1), 1), ((1, 1), (1,)), ((1, 1), (1, 1, 1)), (good, good), (1, 1)]:
            expect_very(self, BadWorths, value, made, catalog.LOPSIDED, 2, 1, value)
            expect_very(self, BadWorths, value, shows_made, catalog.LOPSIDED, 2, 1, value, None)
        for value in (((1, 1), (1, 2)), ((2, 1), (0, 1)), ((-1, 1), (0, 1)), ((1, 3), (0, 1))):
            expect_very(self, BadWorths, value, made, catalog.BY_TWO, 2, 1, value)
        # As many worths as rows of m marks: one without marks.
        self.assertEqual(made(catalog.LOPSIDED, 2, 0, ((5, 7),))[0], "script")
        expect(self, BadWorths, ((1, 1), (1, 1)), made, catalog.LOPSIDED, 2, 0, ((1, 1), (1, 1)))

    def test_rows(self):
        for value in any_values() + [("z",), ["a"], ("a", "b", "a"), "a", ("ab",), (("a",),), ("a", None)]:
            if type(value) is tuple and len(value) <= 2 and all(mark in ("a", "b") for mark in value):
                continue
            expect_very(self, BadRow, value, pure, catalog.SAME, 2, value)
            expect_very(self, BadRow, value, shows_pure, catalog.SAME, 2, value, "script\nx = one 1")

    def test_lots_are_those_of_this_width(self):
        self.assertEqual([len(spanning(catalog.PATH, k, 1)) for k in (1, 2, 3)], [1, 2, 2])
        self.assertEqual([len(lots((catalog.PATH,), k)[1]) for k in (1, 2, 3)], [1, 2, 2])
        self.assertEqual([made(catalog.PATH, k, 1, ((1, 1), (0, 1), (1, 1)))[0] for k in (1, 2)], ["rows", "script"])


if __name__ == "__main__":
    unittest.main()

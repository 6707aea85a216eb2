"""Section 12: what is nothing in every surroundings, how many numbers matter, relations."""

import itertools
import random
import unittest
from fractions import Fraction

from opengates.arounds import filled, paired
from opengates.books import Book
from opengates.errors import BadFactor, BadLength, BadScripts, BadWidth, NoKind, OtherGates, TooMany, TooWide
from opengates.nothing import matters, nothing, relations, same_everywhere
from opengates.nothing import shows_matters, shows_nothing, shows_relations, shows_same_everywhere
from opengates.made import pure
from opengates.scripts import Script
from opengates.spans import determinant
from opengates.tables import count
from tests import catalog
from tests.again import fits_again, how_many_rows, lots_again, near_texts, pairing_again, rank_again, remainder, rows_again, worths_again
from tests.drawing import as_worth, draw_around, draw_book, draw_script
from tests.helpers import any_values, expect, expect_very, nested

LONE = Script("script\nx = one 1")
LOOP = Script("script\nx = road k 1 1")
TIE = Script("script\np = road k 1 2\nq = close 2 p")
NOUGHT = (0, 1)


def heavy_again(book, k, m):
    """The lots of length m, of rows without numbers, whose weight is not 0."""
    found = []
    for lot in lots_again((book,), k)[m]:
        total = 0
        for _, row in lot:
            weight = 1
            for mark in row:
                weight *= book.weight(mark)
            total += weight
        if remainder(book.by, total):
            found.append([row for _, row in lot])
    return found


def seen_again(book, k, script):
    """What a script is worth on each lot whose weight is not 0."""
    told = dict(zip(rows_again(book, len(script.gates)), worths_again(book, script.text)))
    return tuple(told[lot[0]] for lot in heavy_again(book, k, len(script.gates)))


def pair_again(book, script, text):
    return pairing_again(book, worths_again(book, script.text), worths_again(book, text), len(script.gates))


def less_again(book, one, other, text):
    found = Fraction(*pair_again(book, one, text)) - Fraction(*pair_again(book, other, text))
    return as_worth(book.by, found)


def scripts_of(book, k, gates, chance):
    """Some scripts of these gates, at most so wide, of kinds that the book has."""
    found = [draw_script(chance, gates=gates, among=tuple(range(1, 5))) for _ in range(20)]
    return [script for script in found if script.width <= k and set(kinds_of(script)) <= set(book.kinds)]


def kinds_of(script):
    return [parts[0] for _, form, parts in script.lines if form == "road"]


class Nothing(unittest.TestCase):
    def check(self, book, k, script):
        found = nothing(book, k, script)
        self.assertIs(shows_nothing(book, k, script, found), True)
        if all(worth == NOUGHT for worth in seen_again(book, k, script)):
            self.assertEqual(found, ("nothing",))
            for text in ("script\nx = one", script.text, "script\nx = one 1"):
                self.assertIs(shows_nothing(book, k, script, ("paired", text, (1, 1))), False)
            return found
        self.assertEqual((type(found), len(found), found[0]), (tuple, 3, "paired"))
        self.assertTrue(fits_again(book, k, script.gates, found[1]))
        self.assertEqual(found[2], pair_again(book, script, found[1]))
        self.assertEqual(found[2], paired(book, script, Script(found[1])))
        self.assertNotEqual(found[2], NOUGHT)
        self.assertIs(shows_nothing(book, k, script, ("nothing",)), False)
        return found

    def test_some_scripts(self):
        for book, k in catalog.with_widths(100):
            for script in (LONE, LOOP, TIE, -LONE, LONE + LOOP, LONE - LONE, TIE * TIE, Script("script\nx = one"), Script("script\nx = one 3"),
                           TIE.turned(1, 4), Script("script\nx = road k 2 4"), Script("script\nx = road k 3 2\ny = one 3\nz = x * y")):
                if script.width <= k:
                    self.check(book, k, script)

    def test_weights_that_come_to_nought(self):
        self.assertEqual(self.check(catalog.ODD, 1, LONE), ("nothing",))
        self.assertEqual(self.check(catalog.ODD, 2, LONE)[0], "paired")
        self.assertEqual(self.check(catalog.BY_THREE, 1, LONE), ("nothing",))
        self.assertEqual(self.check(catalog.BY_THREE, 4, LONE), ("nothing",))
        self.assertEqual(self.check(catalog.NOUGHT, 3, LONE + LOOP), ("nothing",))
        self.assertEqual(self.check(catalog.book(0, [1, 1, 1], "1" + " 0" * 8), 1, LONE)[0], "paired")

    def test_above_nought_only_noughts_are_nothing(self):
        chance = random.Random(120)
        seen = 0
        for _ in range(200):
            book = draw_book(chance, above=True, marks=chance.randint(1, 3))
            for script in scripts_of(book, 3, (1, 2)[:chance.randint(0, 2)], chance)[:3]:
                all_nought = set(worths_again(book, script.text)) == {NOUGHT}
                self.assertEqual(self.check(book, 3, script) == ("nothing",), all_nought)
                seen += all_nought
        self.assertGreater(seen, 10)

    def test_drawn(self):
        chance = random.Random(121)
        words = []
        for _ in range(100):
            book = chance.choice((draw_book(chance, chance.choice((0, 2, 3, 5, 97)), chance.randint(1, 3)), chance.choice(catalog.BOOKS)))
            k = chance.randint(1, 3)
            gates = tuple(sorted(chance.sample((1, 2, 3, 4), chance.randint(0, k))))
            for script in scripts_of(book, k, gates, chance)[:3]:
                words.append(self.check(book, k, script)[0])
        self.assertTrue(words.count("nothing") > 10 and words.count("paired") > 40, len(words))

    def test_no_around_counts_what_is_nothing(self):
        chance = random.Random(122)
        arounds = 0
        for book in (catalog.ODD, catalog.TWO_KINDS, catalog.NOUGHT, catalog.BY_THREE, catalog.BY_TWO, catalog.BY_THREE_ODD, catalog.PAIRS):
            book = Book(book.text if len(book.kinds) > 1 else book.text + book.text.split("\n")[-1].replace("kind k", "\nkind l"))
            for k in (1, 2):
                for gates in ((), (1,), (2,), (1, 2), (2, 4)):
                    if len(gates) > k:
                        continue
                    for script in scripts_of(book, k, gates, chance):
                        told = nothing(book, k, script)
                        for _ in range(3):
                            around = draw_around(chance, gates, among=(1, 2, 3, 4)[:k] if set(gates) <= set(range(1, k + 1)) else gates)
                            if around.width <= k and told == ("nothing",):
                                arounds += 1
                                self.assertEqual(count(book, filled(around, script)), NOUGHT)
        self.assertGreater(arounds, 40)

    def test_near_values(self):
        right = wrong = 0
        for book, k, script in ((catalog.ODD, 2, LONE), (catalog.LOPSIDED, 2, TIE), (catalog.BY_FIVE, 2, LONE), (catalog.SAME, 1, LOOP + LONE),
                                (catalog.SAME, 2, Script("script\nx = road k 2 4"))):
            word, text, worth = nothing(book, k, script)
            for near in [text] + near_texts(text):
                fits = fits_again(book, k, script.gates, near)
                for told in (worth, pair_again(book, script, near) if fits else (1, 1), NOUGHT):
                    shown = fits and told != NOUGHT and told == pair_again(book, script, near)
                    self.assertIs(shows_nothing(book, k, script, ("paired", near, told)), shown)
                    right += shown
                    wrong += not shown
            for told in ((worth[0], True), (bool(worth[0]), 1), [*worth], (2 * worth[0], 2), (worth[0] + 97, 1), (-worth[0], -1), worth + (1,), worth[0]):
                shown = type(told) is tuple and [type(part) for part in told] == [int, int] and told == worth
                self.assertIs(shows_nothing(book, k, script, ("paired", text, told)), shown)
            for value in (["paired", text, worth], ("paired", text), ("paired", worth, text), ("paired", (text,), worth), ("Paired", text, worth),
                          ("nothing",), ["nothing"], "nothing", ("nothing", ()), (text, worth), ("same",)):
                self.assertIs(shows_nothing(book, k, script, value), False)
        self.assertTrue(right > 40 and wrong > 200, (right, wrong))
        for value in (["nothing"], "nothing", ("nothing", text), ("Nothing",), (("nothing",),), ("same",), ("nothing", ("nothing",)), nested(("nothing",), 1)):
            self.assertIs(shows_nothing(catalog.ODD, 1, LONE, value), False)
        self.assertIs(shows_nothing(catalog.ODD, 1, LONE, ("nothing",)), True)
        for value in any_values():
            for told in (value, ("paired", value, (1, 1)), ("paired", TIE.text, value), (value, TIE.text, (-2, 1)), (value,)):
                if told != ("nothing",):
                    self.assertIs(shows_nothing(catalog.ODD, 2, LONE, told), False)
                    self.assertIs(shows_nothing(catalog.ODD, 1, LONE, told), False)
        self.assertIs(shows_nothing(catalog.ODD, 2, LONE, ("paired", TIE.text, (-2, 1))), True)


class SameEverywhere(unittest.TestCase):
    def check(self, book, k, one, other):
        found = same_everywhere(book, k, one, other)
        self.assertIs(shows_same_everywhere(book, k, one, other, found), True)
        same = seen_again(book, k, one) == seen_again(book, k, other)
        self.assertEqual(nothing(book, k, one - other)[0], "nothing" if same else "paired")
        if same:
            self.assertEqual(found, ("same",))
            return found
        self.assertEqual((type(found), len(found), found[0]), (tuple, 3, "paired"))
        self.assertTrue(fits_again(book, k, one.gates, found[1]))
        self.assertEqual(found[2], less_again(book, one, other, found[1]))
        self.assertNotEqual(found[2], NOUGHT)
        self.assertIs(shows_same_everywhere(book, k, one, other, ("same",)), False)
        back = as_worth(book.by, -Fraction(*found[2]))
        self.assertIs(shows_same_everywhere(book, k, other, one, ("paired", found[1], back)), True)
        self.assertIs(shows_same_everywhere(book, k, other, one, found), back == found[2])
        return found

    def test_some_scripts(self):
        for book, k in catalog.with_widths(45):
            for one, other in itertools.product((LONE, LOOP, TIE, -LONE, LONE + LOOP, TIE * TIE), repeat=2):
                if max(one.width, other.width) <= k:
                    self.check(book, k, one, other)

    def test_drawn(self):
        chance = random.Random(123)
        words = []
        for _ in range(80):
            book = chance.choice((draw_book(chance, chance.choice((0, 2, 3, 97)), chance.randint(1, 3)), catalog.ODD, catalog.TWO_KINDS, catalog.BY_THREE))
            k = chance.randint(1, 3)
            gates = tuple(sorted(chance.sample((1, 2, 3, 4), chance.randint(0, k))))
            found = scripts_of(book, k, gates, chance)[:3]
            for one, other in itertools.product(found, repeat=2):
                words.append(self.check(book, k, one, other)[0])
        self.assertTrue(words.count("same") > 20 and words.count("paired") > 40)

    def test_near_values(self):
        right = wrong = 0
        for book, k, one, other in ((catalog.ODD, 2, LONE, TIE), (catalog.LOPSIDED, 2, TIE, LONE), (catalog.BY_FIVE, 1, LOOP, LONE)):
            word, text, worth = same_everywhere(book, k, one, other)
            for near in [text] + near_texts(text):
                fits = fits_again(book, k, one.gates, near)
                for told in (worth, less_again(book, one, other, near) if fits else (1, 1), NOUGHT):
                    shown = fits and told != NOUGHT and told == less_again(book, one, other, near)
                    self.assertIs(shows_same_everywhere(book, k, one, other, ("paired", near, told)), shown)
                    right += shown
                    wrong += not shown
            for value in (("same",), ("nothing",), ["paired", text, worth], ("paired", text), ("paired", text, worth, ()), ("paired", text, list(worth))):
                self.assertIs(shows_same_everywhere(book, k, one, other, value), False)
        self.assertTrue(right > 20 and wrong > 100)
        for value in any_values() + [["same"], ("nothing",), ("same", ()), ("same", "same"), ("Same",), "same"]:
            self.assertIs(shows_same_everywhere(catalog.SAME, 2, LONE, TIE, value), False)
            for told in (("paired", value, (1, 1)), ("paired", LONE.text, value)):
                self.assertIs(shows_same_everywhere(catalog.LOPSIDED, 2, LONE, TIE, told), False)
        self.assertIs(shows_same_everywhere(catalog.SAME, 2, LONE, TIE, ("same",)), True)


class Matters(unittest.TestCase):
    def right(self, book, k, m, value):
        """Whether a value is what matters tells, by its own working out: the determinant of the table of pairings."""
        many = len(heavy_again(book, k, m))
        if type(value) is not tuple or len(value) != 3 or type(value[0]) is not int or value[0] != many:
            return False
        for texts in value[1:]:
            if type(texts) is not tuple or len(texts) != many:
                return False
            if not all(fits_again(book, k, range(1, m + 1), text) for text in texts):
                return False
        return self.told(book, m, value) != NOUGHT

    def told(self, book, m, value):
        ones = [worths_again(book, text) for text in value[1]]
        others = [worths_again(book, text) for text in value[2]]
        rows = tuple(tuple(pairing_again(book, one, other, m) for other in others) for one in ones)
        return determinant(book.by, rows) if rows else (1, 1)

    def test_all(self):
        for book, k in catalog.with_widths(100):
            for m in range(k + 1):
                found = matters(book, k, m)
                self.assertEqual((type(found), len(found), found[0]), (tuple, 3, len(heavy_again(book, k, m))))
                self.assertIs(shows_matters(book, k, m, found), True)
                if found[0] <= 12:
                    self.assertTrue(self.right(book, k, m, found))
                self.assertIs(shows_matters(book, k, m, (found[0] + 1,) + found[1:]), False)
                self.assertIs(shows_matters(book, k, m, (found[0], found[1][::-1], found[2])), True)

    def test_none(self):
        self.assertEqual(matters(catalog.ODD, 1, 1), (0, (), ()))
        self.assertEqual([matters(catalog.ODD, 2, m)[0] for m in (0, 1, 2)], [1, 2, 4])
        self.assertEqual([matters(catalog.NOUGHT, 2, m)[0] for m in (0, 1, 2)], [1, 0, 0])
        for value in ((0, (), ()), (False, (), ()), (0, [], ()), (0, (), []), [0, (), ()], (0, ()), (0, (), (), ()), ((), ()), (0, (LONE.text,), (LONE.text,))):
            self.assertIs(shows_matters(catalog.ODD, 1, 1, value), type(value) is tuple and value == (0, (), ()) and type(value[0]) is int)

    def test_other_scripts(self):
        texts = [script.text for script in (LONE, LOOP, TIE, LONE - LOOP, LONE - LONE)]
        right = 0
        for book, k in ((catalog.ODD, 2), (catalog.LOPSIDED, 2), (catalog.UNLIKE, 2), (catalog.BY_FIVE, 2), (catalog.SAME, 2), (catalog.BY_THREE_ODD, 2)):
            many = matters(book, k, 1)[0]
            for ones in itertools.product(texts, repeat=many):
                for others in (ones, tuple(texts[:many]), tuple(texts[1:many + 1])):
                    shown = self.right(book, k, 1, (many, ones, others))
                    self.assertIs(shows_matters(book, k, 1, (many, ones, others)), shown)
                    right += shown
        self.assertGreater(right, 20)

    def test_near_values(self):
        right = wrong = 0
        for book, k, m in ((catalog.LOPSIDED, 2, 1), (catalog.SAME, 2, 2), (catalog.BY_FIVE, 1, 1)):
            many, ones, others = matters(book, k, m)
            for at, text in enumerate(ones):
                for near in near_texts(text):
                    other = ones[:at] + (near,) + ones[at + 1:]
                    for value in ((many, other, others), (many, ones, other)):
                        shown = self.right(book, k, m, value)
                        self.assertIs(shows_matters(book, k, m, value), shown)
                        right += shown
                        wrong += not shown
                for near in any_values():
                    other = ones[:at] + (near,) + ones[at + 1:]
                    self.assertIs(shows_matters(book, k, m, (many, other, others)), False)
                    self.assertIs(shows_matters(book, k, m, (many, ones, other)), False)
            for value in ((many, ones), (many, ones, others, ()), [many, ones, others], (many, list(ones), others), (many, ones, list(others)),
                          (many, ones[1:], others), (many, ones[1:], others[1:]), (many - 1, ones[1:], others[1:]), (str(many), ones, others),
                          (many, ones + ones[:1], others + others[:1]), ((many,), ones, others), (many, ones[:-1] + ones[:1], others)):
                self.assertIs(shows_matters(book, k, m, value), many == 1 and value == (many, ones, others) and type(value) is tuple)
        self.assertTrue(right > 30 and wrong > 100)
        for value in any_values():
            self.assertIs(shows_matters(catalog.SAME, 2, 1, value), False)
            self.assertIs(shows_matters(catalog.SAME, 2, 1, (value, (LONE.text,), (LONE.text,))), type(value) is int and value == 1)
            self.assertIs(shows_matters(catalog.SAME, 2, 1, (1, value, (LONE.text,))), False)

    def test_the_most_lots(self):
        book = catalog.book(0, [1, 1, 1], "1 0 0 0 2 0 0 0 3")
        found = matters(book, 4, 4)
        self.assertEqual(found[0], 81)
        self.assertIs(shows_matters(book, 4, 4, found), True)
        self.assertIs(shows_matters(book, 4, 4, (81, found[1], found[2][1:] + found[2][1:2])), False)


class Relations(unittest.TestCase):
    def check(self, book, k, scripts):
        found = relations(book, k, scripts)
        rows = [seen_again(book, k, script) for script in scripts]
        self.assertIs(type(found), tuple)
        self.assertEqual(len(found), len(scripts) - rank_again(book.by, rows))
        for factors in found:
            self.assertEqual((type(factors), len(factors)), (tuple, len(scripts)))
            self.assertTrue(self.is_nought(book, rows, factors))
        self.assertEqual(rank_again(book.by, found), len(found))
        self.assertIs(shows_relations(book, k, scripts, found), True)
        self.assertIs(shows_relations(book, k, scripts, found[::-1]), True)
        return found

    def is_nought(self, book, rows, factors):
        sums = [sum(Fraction(*factor) * Fraction(*row[at]) for factor, row in zip(factors, rows)) for at in range(len(rows[0]))]
        return all(remainder(book.by, total) == 0 for total in sums)

    def test_some_scripts(self):
        for book, k in catalog.with_widths(60):
            for scripts in ((LONE,), (LONE, LONE), (LONE, LOOP), (LOOP, TIE), (LONE, LOOP, TIE, TIE * TIE, LOOP, LONE), (LONE - LONE,), (LONE - LONE,) * 6):
                if max(script.width for script in scripts) <= k:
                    self.check(book, k, scripts)

    def test_each_sum_is_nothing(self):
        chance = random.Random(124)
        seen = set()
        for _ in range(60):
            book = chance.choice((draw_book(chance, chance.choice((0, 2, 3, 97)), chance.randint(1, 3)), catalog.ODD, catalog.BY_THREE))
            k = chance.randint(1, 3)
            gates = tuple(sorted(chance.sample((1, 2, 3, 4), chance.randint(0, min(2, k)))))
            scripts = tuple(scripts_of(book, k, gates, chance)[:chance.randint(1, 6)])
            if not scripts:
                continue
            found = self.check(book, k, scripts)
            seen.add(len(found))
            for factors in found[:2]:
                total = None
                for (top, bottom), script in zip(factors, scripts):
                    one = Script(script.text + f"\nzzz = add {top}{'' if bottom == 1 else f'/{bottom}'} {script.lines[-1][0]}")
                    total = one if total is None else total + one
                self.assertEqual(nothing(book, k, total), ("nothing",))
        self.assertGreater(len(seen), 2)

    def test_shows_any_basis(self):
        book = catalog.SAME
        scripts = (LONE, LONE, TIE)
        for value, right in (((((1, 1), (-1, 1), (0, 1)), ((0, 1), (1, 1), (-1, 1))), True), ((((1, 2), (-1, 2), (0, 1)), ((1, 1), (0, 1), (-1, 1))), True),
                             ((((1, 1), (-1, 1), (0, 1)),), False), ((((1, 1), (-1, 1), (0, 1)), ((2, 1), (-2, 1), (0, 1))), False), ((), False),
                             ((((1, 1), (-1, 1), (0, 1)), ((0, 1), (0, 1), (0, 1))), False), ((((1, 1), (1, 1), (0, 1)), ((0, 1), (1, 1), (-1, 1))), False),
                             ((((1, 1), (-1, 1)), ((0, 1), (1, 1))), False), ((((1, 1), (-1, 1), (0, 1)), ((0, 1), (1, 1), (-1, 1)), ((1, 1), (0, 1), (-1, 1))), False),
                             ([((1, 1), (-1, 1), (0, 1)), ((0, 1), (1, 1), (-1, 1))], False), (([(1, 1), (-1, 1), (0, 1)], ((0, 1), (1, 1), (-1, 1))), False),
                             ((((1, 1), (-1, 1), (0, 1)), ((0, 1), (True, 1), (-1, 1))), False), ((((1, 1), (-1, 1), (0, 1)), ((0, 1), (2, 2), (-1, 1))), False),
                             ((((1, 1), (-1, 1), (0, 1)), ((0, 1), 1, (-1, 1))), False), ((((1, 1), (-1, 1), (0, 1)), None), False)):
            self.assertIs(shows_relations(book, 2, scripts, value), right, value)
        for value in any_values():
            self.assertIs(shows_relations(book, 2, scripts, value), False)
            self.assertIs(shows_relations(book, 2, (LONE,), value), value == () and type(value) is tuple)
        by_three = catalog.book(3, [1, 1], "0 1 1 0")
        for value, right in ((((1, 1), (2, 1)), True), (((2, 1), (1, 1)), True), (((1, 1), (-1, 1)), False), (((4, 1), (2, 1)), False),
                             (((1, 1), (1, 1)), False), (((1, 2), (1, 1)), False), (((0, 1), (0, 1)), False)):
            self.assertIs(shows_relations(by_three, 2, (LONE, TIE), (value,)), right)

    def test_other_gates_than_the_first_ones(self):
        one, other = Script("script\nx = road k 2 4"), Script("script\nx = road k 4 2")
        self.assertEqual(len(self.check(catalog.SAME, 2, (one, other))), 1)
        self.assertEqual(len(self.check(catalog.LED, 2, (one, other))), 0)


class Errors(unittest.TestCase):
    def calls(self, book, k, script):
        return [(nothing, book, k, script), (shows_nothing, book, k, script, ("nothing",)), (same_everywhere, book, k, script, script),
                (shows_same_everywhere, book, k, script, script, ("same",)), (relations, book, k, (script, script)),
                (shows_relations, book, k, (script,), ())]

    def test_width_and_rows_come_first(self):
        wide = Script("script\nx = one 1 2 3\ny = road nope 1 2")
        for k in any_values() + [0, 5, True]:
            if type(k) is int and 1 <= k <= 4:
                continue
            for call, *arguments in self.calls(catalog.SQUARE, k, wide):
                expect_very(self, BadWidth, k, call, *arguments)
            for call, *arguments in ((matters, catalog.SQUARE, k, None), (shows_matters, catalog.SQUARE, k, None, None), (relations, catalog.SQUARE, k, None),
                                     (same_everywhere, catalog.SQUARE, k, LONE, wide)):
                expect_very(self, BadWidth, k, call, *arguments)
        for call, *arguments in self.calls(catalog.SQUARE, 4, wide) + [(matters, catalog.SQUARE, 4, 9), (shows_matters, catalog.SQUARE, 4, 9, None),
                                                                      (relations, catalog.SQUARE, 4, None), (same_everywhere, catalog.SQUARE, 4, LONE, wide)]:
            expect(self, TooMany, 341, call, *arguments)

    def test_too_wide_then_script_errors(self):
        wide = Script("script\nx = one 1 2 3\ny = road nope 1 2\nz = close 1 y\nw = close 2 z")
        wider = Script("script\nx = one 1 2 3 4\ny = road nope 1 2\nz = close 1 y\nw = close 2 z")
        for call, *arguments in self.calls(catalog.SAME, 2, wide):
            expect(self, TooWide, 3, call, *arguments)
        expect(self, TooWide, 3, same_everywhere, catalog.SAME, 2, wide, wider)
        expect(self, TooWide, 4, same_everywhere, catalog.SAME, 2, wider, wide)
        expect(self, TooWide, 4, shows_same_everywhere, catalog.SAME, 3, wide, wider, ("same",))
        expect(self, TooWide, 4, relations, catalog.SAME, 3, (wide, wide, wider))
        for call, *arguments in self.calls(catalog.SAME, 3, wide):
            expect(self, NoKind, "nope", call, *arguments)
        half = Script("script\nx = one 1\ny = add 1/2 x")
        third = Script("script\nx = one 1\ny = add 1/3 x 1/2 x")
        none = Script("script\nx = one 1\ny = add 1/2 x\nz = road no 1 1\nw = road nope 1 1")
        for call, *arguments in self.calls(catalog.BY_TWO, 1, third):
            expect(self, BadFactor, (1, 2), call, *arguments)
        # One script behind the other: all errors of the first one come first.
        expect(self, BadFactor, (1, 2), same_everywhere, catalog.BY_TWO, 2, half, none)
        expect(self, NoKind, "no", same_everywhere, catalog.BY_TWO, 2, none, half)
        expect(self, NoKind, "no", relations, catalog.BY_TWO, 2, (LONE, none, half))
        expect(self, BadFactor, (1, 2), shows_relations, catalog.BY_TWO, 2, (LONE, half, none), ())
        expect(self, TooWide, 2, relations, catalog.BY_TWO, 1, (half, none, TIE))

    def test_other_gates(self):
        for k in (1, 2):
            for other in (Script("script\nx = one"), Script("script\nx = one 2"), Script("script\nx = road no 1 2"), Script("script\nx = one 1 2 3 4")):
                expect_very(self, OtherGates, other, same_everywhere, catalog.SAME, k, LONE, other)
                expect_very(self, OtherGates, other, shows_same_everywhere, catalog.SAME, k, LONE, other, None)

    def test_scripts(self):
        two = Script("script\nx = one 2")
        for value in any_values() + [(), LONE, [LONE], (LONE,) * 7, (LONE, None), (LONE.text,), (LONE, two), (two, LONE), ((LONE,),), (LONE, [LONE]), {LONE.text: LONE}]:
            expect_very(self, BadScripts, value, relations, catalog.SAME, 1, value)
            expect_very(self, BadScripts, value, shows_relations, catalog.SAME, 1, value, ())
        for many in range(1, 7):
            self.assertEqual(len(relations(catalog.SAME, 1, (LONE,) * many)), many - 1)

    def test_lengths(self):
        for m in any_values() + [-1, 3, True]:
            if type(m) is not int or not 0 <= m <= 2:
                expect_very(self, BadLength, m, matters, catalog.SAME, 2, m)
                expect_very(self, BadLength, m, shows_matters, catalog.SAME, 2, m, None)

    def test_rows_of_all_widths(self):
        for book, k in catalog.with_widths():
            self.assertLessEqual(how_many_rows((book,), k), 130)
            self.assertEqual(nothing(book, k, LONE - LONE), ("nothing",))
            self.assertEqual(same_everywhere(book, k, LOOP, LOOP), ("same",))
            self.assertEqual(relations(book, k, (Script(pure(book, k, ())),))[1:], ())


if __name__ == "__main__":
    unittest.main()

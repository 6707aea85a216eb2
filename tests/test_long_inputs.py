"""Long and great inputs: scripts of 400 lines, texts of 20,000 characters, and what was told handed in again."""

import unittest
from fractions import Fraction

from opengates.alike import alike, least_width, parted, shows_alike, shows_parted
from opengates.arounds import about, around_of, filled, paired
from opengates.books import Book
from opengates.lengths import in_ring, in_row, recurrence, ring_script, rings_alike, row_script, rows_alike
from opengates.lots import lots, same_lot, shows_same_lot, shows_stable
from opengates.made import made, pure, shows_made, shows_pure, shows_spanning, spanning
from opengates.nothing import matters, nothing, relations, same_everywhere
from opengates.nothing import shows_matters, shows_nothing, shows_relations, shows_same_everywhere
from opengates.scripts import exchanged, Script
from opengates.tables import count, table
from opengates.yard import Yard
from tests import catalog
from tests.again import rows_again, worths_again

FORMS = ("turn 1 2 {0}", "{0} * r", "add 1/7 {0} 6/7 {0}", "turn 2 1 {0}", "add 1 {0} 3 {0} -3 {0}")
BOOKS = [catalog.LOPSIDED, catalog.UNLIKE, catalog.BY_FIVE, catalog.BY_TWO]


def chain(*last):
    """A script of 400 lines, each hanging on the one ahead, worth what a road to and back is, 0 or 1."""
    rows = ["script", "r0 = road k 1 2", "r = r0 * r0"]
    for at in range(1, 399 - len(last)):
        rows.append(f"a{at} = " + FORMS[at % 5].format(f"a{at - 1}" if at > 1 else "r"))
    found = Script("\n".join(rows + list(last)))
    assert len(found) == 400
    return found


def padded(text, name):
    """The same script, with lines ahead of it that nothing uses, until its text has nearly 20,000 characters."""
    head, *rows = text.split("\n")
    more = ["qqq0 = one"]
    while len("\n".join([head] + more + rows)) < 19500:
        more.append(f"qqq{len(more)} = add " + " ".join(f"{at} qqq{len(more) - 1}" for at in range(1, 40)))
    found = "\n".join([head] + more + rows)
    assert len(found) < 20000
    return found


class LongScripts(unittest.TestCase):
    def test_what_is_nothing(self):
        long = chain()
        noughts = chain("b = add 1 r -1 r")
        for book in BOOKS:
            found = nothing(book, 2, long)
            self.assertIs(shows_nothing(book, 2, long, found), True)
            self.assertEqual(nothing(book, 2, noughts), ("nothing",))
            self.assertEqual(same_everywhere(book, 2, long, long), ("same",))
            told = same_everywhere(book, 2, long, noughts)
            self.assertIs(shows_same_everywhere(book, 2, long, noughts, told), True)
            found = relations(book, 2, (long, noughts, long))
            self.assertIs(shows_relations(book, 2, (long, noughts, long), found), True)
        lone = chain("b = close 1 r")
        self.assertEqual(relations(catalog.LOPSIDED, 2, (lone, lone)), (((-1, 1), (1, 1)),))

    def test_texts_that_are_shown(self):
        book = catalog.LOPSIDED
        # The road's table, worth 1 where the marks are unlike.
        long = chain("b = add 1 r")
        worths = ((0, 1), (1, 1), (1, 1), (0, 1))
        self.assertEqual(worths_again(book, long.text), worths)
        for text in (long.text, padded(long.text, "q")):
            self.assertIs(shows_made(book, 2, 2, worths, ("script", text)), True)
            self.assertIs(shows_made(book, 2, 2, ((1, 1),) * 4, ("script", text)), False)
            self.assertIs(shows_same_lot(book, 2, ("a", "b"), ("a", "a"), ("parts", text)), True)
            self.assertIs(shows_same_lot(book, 2, ("a", "b"), ("b", "a"), ("parts", text)), False)
            self.assertIs(shows_pure(catalog.SAME, 2, ("a", "b"), text), True)
            self.assertIs(shows_pure(book, 2, ("a", "b"), text), False)
            self.assertIs(shows_spanning(catalog.SAME, 2, 2, (text, "script\nx = one 1 2")), True)
            self.assertIs(shows_spanning(catalog.SAME, 2, 2, (text, text)), False)
            closed = text + "\nzz1 = close 1 b\nzz2 = close 2 zz1"
            self.assertIs(shows_alike(catalog.SAME, catalog.EQUAL, 2, ("unlike", closed)), worths_again(catalog.SAME, closed) != worths_again(catalog.EQUAL, closed))
            self.assertIs(shows_alike(catalog.SAME, catalog.LOPSIDED, 2, ("unlike", closed)), True)
            self.assertIs(shows_parted((catalog.SAME, catalog.LOPSIDED), 2, (closed,)), True)
            lone = text + "\nzz1 = close 2 b"
            self.assertIs(shows_matters(catalog.SAME, 2, 1, (1, (lone,), (lone,))), True)
            self.assertIs(shows_nothing(book, 2, Script(lone), ("paired", lone, paired(book, Script(lone), Script(lone)))), True)

    def test_links(self):
        long = chain("b = add 1 r")
        for book in (catalog.BY_FIVE, catalog.BY_TWO):
            for n in (10 ** 18, 10 ** 18 - 1):
                self.assertEqual(count(book, row_script(long, n).closed()), in_row(book, long, n))
                self.assertEqual(count(book, ring_script(long, n)), in_ring(book, long, n))
        self.assertEqual(in_row(catalog.LOPSIDED, long, 40), count(catalog.LOPSIDED, row_script(long, 40).closed()))
        short = Script("script\nr0 = road k 1 2\nr = r0 * r0")
        for book in BOOKS:
            self.assertEqual(recurrence(book, long), recurrence(book, Script(long.text)))
        self.assertEqual([rows_alike(catalog.LOPSIDED, long, catalog.LOPSIDED, short), rings_alike(catalog.BY_TWO, long, catalog.BY_TWO, short)], [("alike",), ("alike",)])


class ToldAgain(unittest.TestCase):
    def test_pure_scripts_laid_together(self):
        for book, k in ((catalog.UNLIKE, 3), (catalog.CHAIN, 2), (catalog.BY_FIVE, 3), (catalog.THREE_KINDS, 2)):
            for m in range(k + 1):
                texts = spanning(book, k, m)[:5]
                scripts = [Script(text) for text in texts]
                total = scripts[0]
                for script in scripts[1:]:
                    # Two of unlike lots are worth 0 together.
                    self.assertEqual(set(table(book, scripts[0] * script).worths), {(0, 1)})
                    total = total + script
                self.assertEqual(table(book, total * total), table(book, total))
                found = made(book, k, m, table(book, total).worths)
                self.assertIs(shows_made(book, k, m, table(book, total).worths, found), True)
                self.assertIs(shows_made(book, k, m, table(book, total).worths, ("script", (total * total).text)), True)
                told = nothing(book, k, total * total - total)
                self.assertEqual(told, ("nothing",))
                again = about(around_of(total))
                self.assertEqual(same_everywhere(book, k, again, total), ("same",))
                self.assertEqual(relations(book, k, tuple(scripts + [total])[-6:])[1:], ())

    def test_parts_exchanged(self):
        book = catalog.UNLIKE
        script = Script(pure(book, 3, ("a", "c")))
        for name, form, parts in script.lines:
            gates = script.gates_of(name)
            other = Script("script\n" + "one".join(["x = ", "".join(f" {gate}" for gate in gates)]))
            found = exchanged(script, name, other)
            fits = found.width <= 3 and worths_again(book, found.text) == worths_again(book, script.text)
            self.assertIs(shows_pure(book, 3, ("a", "c"), found.text), fits)
            self.assertIs(shows_pure(book, 3, ("a", "c"), exchanged(script, name, Script(other.text + "\ny = add 1 x")).text), fits)

    def test_links_that_were_told(self):
        book = catalog.BY_FIVE
        link = Script(pure(book, 3, ("a", "b")))
        for n in (7, 10 ** 18):
            row = row_script(link, n)
            self.assertEqual(count(book, row.closed()), in_row(book, link, n))
            self.assertEqual(in_row(book, row, 1), in_row(book, link, n))
            self.assertEqual(in_ring(book, row, 3), in_ring(book, row_script(row, 3), 1))
            self.assertIs(shows_nothing(book, 3, row, nothing(book, 3, row)), True)
        # By 0, rows of a thousand copies: the numbers on the way are great.
        great = row_script(Script("script\na = road k 1 2\nb = add 999999999/7 a"), 700)
        book = catalog.book(0, [1, 2], "0 1 1 1")
        found = nothing(book, 3, great)
        self.assertGreater(len(bin(found[2][0])), 20000)
        self.assertIs(shows_nothing(book, 3, great, found), True)
        self.assertIs(shows_nothing(book, 3, great, found[:2] + ((found[2][0] + found[2][1], found[2][1]),)), False)
        worths = table(book, great).worths
        told = made(book, 3, 2, worths)
        self.assertIs(shows_made(book, 3, 2, worths, told), True)
        self.assertEqual(table(book, Script(told[1])).worths, worths)
        self.assertEqual(same_everywhere(book, 3, great, Script(told[1])), ("same",))
        self.assertEqual(Fraction(*count(book, great.closed())), sum(
            Fraction(*worth) * book.weight(one) * book.weight(other) for (one, other), worth in zip(rows_again(book, 2), worths)))

    def test_told_scripts_in_a_yard(self):
        for book, k in ((catalog.UNLIKE, 3), (catalog.BY_FIVE, 2)):
            text = pure(book, k, ("c", "b"))
            yard = Yard(book)
            for line in text.split("\n")[1:]:
                yard.line(line)
            last = yard.names[-1]
            self.assertEqual([yard.text, tuple(worth for _, worth in yard.worths_of(last))], [text, table(book, Script(text)).worths])
            self.assertEqual(yard.closed(last), count(book, Script(text).closed()))
            self.assertIs(shows_pure(book, k, ("c", "b"), yard.script(last).text), True)

    def test_told_scripts_and_families_of_two_books(self):
        books = (catalog.EQUAL, catalog.SAME, catalog.ODD)
        for text in parted(books, 2):
            script = Script(text)
            for one in books:
                self.assertEqual(count(one, script * script), (count(one, script)[0] ** 2, 1))
        self.assertIs(shows_parted(books, 2, parted(books, 2)), True)
        k, text = least_width(catalog.EQUAL, catalog.ALL_TWINS)
        self.assertEqual(alike(catalog.EQUAL, catalog.ALL_TWINS, k)[0], "unlike")
        self.assertIs(shows_alike(catalog.EQUAL, catalog.ALL_TWINS, k, ("unlike", (Script(text) + Script(text)).text)), True)
        self.assertIs(shows_alike(catalog.EQUAL, catalog.ALL_TWINS, k, ("unlike", (Script(text) - Script(text)).text)), False)
        family = lots((catalog.PATH,), 2)
        self.assertIs(shows_same_lot(catalog.PATH, 2, ("a",), ("c",), ("same", family)), True)
        self.assertIs(shows_stable((catalog.PATH,), 2, same_lot(catalog.PATH, 2, ("a",), ("c",))[1]), True)

    def test_filled_with_told_scripts(self):
        for book, k in ((catalog.LOPSIDED, 2), (catalog.UNLIKE, 2), (catalog.BY_FIVE, 2)):
            many, texts, others = matters(book, k, 2)
            for one in texts:
                for other in others:
                    whole = count(book, filled(around_of(Script(other)), Script(one)))
                    self.assertEqual(whole, paired(book, Script(one), Script(other)))
                    self.assertEqual(whole != (0, 1), one == other)


class GreatBooks(unittest.TestCase):
    def test_the_greatest_numbers_a_book_has(self):
        top = 10 ** 12
        book = Book(f"book 0\nmark a {top}\nmark b {-top}\nmark c {top - 1}\nkind k {top} {-top} 0 1 {top - 1} {-top} {top} {top} 7\nkind l " + " ".join(["1"] * 9))
        for k in (1, 2, 3):
            for m in range(k + 1):
                self.assertIs(shows_spanning(book, k, m, spanning(book, k, m)), True)
                self.assertIs(shows_matters(book, k, m, matters(book, k, m)), True)
        link = Script("script\nx = road k 1 2")
        self.assertEqual(in_row(book, link, 40), count(book, row_script(link, 40).closed()))
        self.assertEqual(in_ring(book, link, 40), count(book, ring_script(link, 40)))

    def test_a_road_that_tells_all_marks_apart(self):
        book = catalog.book(0, [5, 5, 5, 5], " ".join(str(at) for at in range(16)))
        self.assertEqual(len(spanning(book, 3, 3)), 64)
        self.assertIs(shows_spanning(book, 3, 3, spanning(book, 3, 3)), True)


if __name__ == "__main__":
    unittest.main()

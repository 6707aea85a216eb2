"""Scripts of 400 lines, each one hanging on the one ahead, and what was told handed in again."""

import unittest

from opengates.arounds import about, Around, around_of, filled, paired
from opengates.books import Book
from opengates.errors import TooMany
from opengates.nets import by_ways, net, script_of
from opengates.scripts import exchanged, Script
from opengates.spans import determinant, in_span, kernel, shows_in_span, shows_kernel
from opengates.tables import count, line_tables, table
from tests.drawing import as_worth
from tests.helpers import expect

MANY = 400
FORMS = ("close 2 {0}", "{0} * r", "turn 1 2 {0}", "turn 2 1 {0}", "add 1/2 {0} -3 {0}")


def chain(many):
    """A script of so many lines with the gates (1,) or (1, 2), each line hanging on the one ahead."""
    rows = ["script", "r = road k 1 2"]
    ahead = "r"
    for at in range(1, many):
        rows.append(f"a{at} = " + FORMS[(at - 1) % len(FORMS)].format(ahead))
        ahead = f"a{at}"
    return Script("\n".join(rows))


class LongScripts(unittest.TestCase):
    def setUp(self):
        self.script = chain(MANY)
        self.assertEqual((len(self.script), self.script.gates, self.script.width), (MANY, (1, 2), 2))

    def assert_hangs(self, script, first, many):
        """Lines from first on, so many, each hang on the one ahead."""
        for at in range(first, first + many - 1):
            operands = script.text.split("\n")[at + 1].split(" ")[2:]
            self.assertIn(f"x{at}", operands)

    def test_made(self):
        self.assertEqual([self.script.gates_of("r"), self.script.gates_of("a1")], [(1, 2), (1,)])
        self.assertEqual([name for name, _, _ in self.script.lines], ["r"] + [f"a{at}" for at in range(1, MANY)])
        self.assertEqual(Script(self.script.text), self.script)

    def test_multiplied(self):
        both = self.script * self.script
        self.assertEqual((len(both), both.gates), (2 * MANY + 1, (1, 2)))
        self.assertEqual(both.lines[-1], ("x801", "*", ("x400", "x800")))
        self.assert_hangs(both, 1, MANY)
        self.assert_hangs(both, MANY + 1, MANY)

    def test_added(self):
        for found, factor in ((self.script + self.script, 1), (self.script - self.script, -1)):
            self.assertEqual((len(found), found.gates), (2 * MANY + 1, (1, 2)))
            self.assertEqual(found.lines[-1], ("x801", "add", (((1, 1), "x400"), ((factor, 1), "x800"))))
            self.assert_hangs(found, MANY + 1, MANY)
        self.assertEqual((-self.script).lines[-1], ("x401", "add", (((-1, 1), "x400"),)))

    def test_closed(self):
        found = self.script.closed()
        self.assertEqual((len(found), found.gates), (MANY + 2, ()))
        self.assertEqual(found.lines[-2:], (("x401", "close", (1, "x400")), ("x402", "close", (2, "x401"))))
        self.assert_hangs(found, 1, MANY + 2)

    def test_turned(self):
        found = self.script.turned(2, 3)
        self.assertEqual((len(found), found.gates), (MANY + 1, (1, 3)))
        self.assertEqual(found.lines[-1], ("x401", "turn", (2, 3, "x400")))

    def test_exchanged(self):
        for name, ahead in (("r", 0), ("a5", 5), ("a399", 399)):
            found = exchanged(self.script, name, self.script)
            self.assertEqual((len(found), found.gates), (2 * MANY - 1, (1, 2)))
            self.assert_hangs(found, ahead + 1, 2 * MANY - 1 - ahead)

    def test_what_was_told_may_be_handed_in_again(self):
        found = self.script
        many = MANY
        for _ in range(4):
            found = exchanged(Script((found * found).text), "x400", self.script.turned(1, 2))
            # Doubled, one line more; the exchanged line went, 401 came.
            many = 2 * many + 1 - 1 + MANY + 1
            self.assertEqual((len(found), found.gates, found.width), (many, (1, 2), 2))


def squares(many, *first):
    """A script of so many lines, each laid on itself, behind some first ones; the last one is closed."""
    rows = ["script", *first]
    last = first[-1].split(" ")[0]
    while len(rows) < many:
        rows.append(f"s{len(rows)} = {last} * {last}")
        last = f"s{len(rows) - 1}"
    return Script("\n".join(rows + [f"end = close 1 {last}"]))


class LongTables(unittest.TestCase):
    def test_chains(self):
        # A road's worth, taken times a number and the road by turns: worked out by hand.
        book = Book("book 0\nmark a 1\nmark b 1\nkind k 0 1 1 0")
        rows = ["script", "a0 = road k 1 2"]
        top = 1
        for at in range(1, 400):
            rows.append(f"a{at} = " + (f"turn 1 2 a{at - 1}", f"add 1/2 a{at - 1} 3/2 a{at - 1}", f"a{at - 1} * a0")[at % 3])
            top *= 2 if at % 3 == 1 else 1
        script = Script("\n".join(rows))
        self.assertEqual(len(script), 400)
        worths = ((0, 1), (top, 1), (top, 1), (0, 1))
        self.assertEqual(table(book, script).worths, worths)
        told = line_tables(book, script)
        self.assertEqual((len(told), told[-1], told[0]), (400, ("a399", worths), ("a0", ((0, 1), (1, 1), (1, 1), (0, 1)))))
        self.assertEqual(count(book, script.closed()), (2 * top, 1))
        prime = Book(book.text.replace("book 0", "book 97"))
        self.assertEqual(count(prime, script.closed()), (2 * top % 97, 1))

    def test_four_gates_of_four_marks(self):
        book = Book("book 89\nmark a 1\nmark b 2\nmark c 3\nmark d 4\nkind k " + " ".join(str(at * at % 89) for at in range(16)))
        rows = ["script", "a0 = one 1 2 3 4", "b = road k 1 2", "c = road k 3 4"]
        rows += [f"a{at} = " + (f"a{at - 1} * b", f"turn 1 3 a{at - 1}", f"a{at - 1} * c", f"turn 2 4 a{at - 1}")[at % 4] for at in range(1, 398)]
        found = table(book, Script("\n".join(rows)))
        self.assertEqual((len(found.rows), len(found.worths)), (256, 256))
        for row in found.rows:
            # Read backward: a turn changes the marks, a product asks for a road.
            marks = dict(zip((1, 2, 3, 4), row))
            worth = 1
            for at in range(397, 0, -1):
                if at % 4 == 0:
                    worth = worth * book.worth("k", marks[1], marks[2]) % 89
                elif at % 4 == 2:
                    worth = worth * book.worth("k", marks[3], marks[4]) % 89
                elif at % 4 == 1:
                    marks[1], marks[3] = marks[3], marks[1]
                else:
                    marks[2], marks[4] = marks[4], marks[2]
            self.assertEqual(found[row], (worth, 1))

    def test_lines_laid_on_themselves_again_and_again(self):
        first = ("a = road k 1 2", "b = close 2 a")
        script = squares(400, *first)
        self.assertEqual(len(script), 400)
        for by, weight, worth in ((2, 1, 1), (5, 2, 3), (97, 5, 11)):
            book = Book(f"book {by}\nmark a {weight}\nkind k {worth}")
            power = weight * worth % by
            for _ in range(397):
                power = power * power % by
            self.assertEqual(count(book, script), (weight * power % by, 1))
            self.assertEqual(table(book, script).worths, ((weight * power % by, 1),))
            self.assertEqual(line_tables(book, script)[-1], ("end", ((weight * power % by, 1),)))
            self.assertEqual(paired(book, script, script), (pow(weight * power, 2, by), 1))
        signs = Book("book 0\nmark a 1\nmark b 1\nkind k -1 0 1 -1")
        self.assertEqual(count(signs, script), (1, 1))
        self.assertEqual(count(Book("book 0\nmark a 1\nkind k -1"), script), (1, 1))
        expect(self, TooMany, 2 ** 397 + 1, net, script)

    def test_great_lines_that_the_last_one_does_not_use(self):
        # They are lines all the same, but nothing that is asked hangs on them.
        text = squares(399, "a = road k 1 2", "b = close 2 a").text + "\nlast = close 1 b"
        script = Script(text)
        book = Book("book 0\nmark a 2\nkind k 3")
        self.assertEqual([count(book, script), table(book, script).worths, net(script)], [(12, 1), ((12, 1),), (2, (("k", 0, 1),), ())])
        self.assertEqual(paired(book, script, script), (144, 1))
        self.assertEqual(table(book, about(around_of(script))).worths, ((12, 1),))

    def test_nets_of_long_scripts(self):
        rows = ["script", "a0 = road k 1 3"] + [f"a{at} = turn {1 + at % 2} {2 - at % 2} a{at - 1}" for at in range(1, 400)]
        self.assertEqual(net(Script("\n".join(rows))), (2, (("k", 0, 1),), ((2, 0), (3, 1))))
        rows = ["script", "a1 = road k 1 1"] + [f"a{at} = a{at - 1} * a1" for at in range(2, 401)]
        self.assertEqual(net(Script("\n".join(rows))), (1, (("k", 0, 0),) * 400, ((1, 0),)))
        self.assertEqual(by_ways(Book("book 97\nmark a 1\nkind k 2"), net(Script("\n".join(rows))), ("a",)), (pow(2, 400, 97), 1))
        again = script_of(net(Script("\n".join(rows))))
        self.assertEqual(net(again), net(Script("\n".join(rows))))
        self.assertEqual(net(script_of(net(again))), net(again))


class LongArounds(unittest.TestCase):
    def setUp(self):
        rows = ["around h 1 2", "r = road k 1 2", "a0 = turn 1 2 h"]
        forms = ("{0} * r", "turn 1 2 {0}", "close 2 {0}", "r * {0}", "add 1/2 {0} 1/2 {0}", "turn 2 1 {0}")
        for at in range(1, 397):
            rows.append(f"a{at} = " + forms[at % 6].format(f"a{at - 1}"))
        self.around = Around("\n".join(rows + ["b = close 1 a396", "c = close 2 b"]))
        self.script = Script("script\nx = road k 2 1\ny = one 1\nz = add 2 x -1 x\nw = z * y")

    def test_filled_about_and_back(self):
        self.assertEqual((len(self.around.lines), self.around.width), (400, 2))
        books = [Book("book 0\nmark a 1\nmark b 1\nkind k 0 1 1 0"), Book("book 11\nmark a 3\nmark b 4\nkind k 1 2 9 5")]
        found = about(self.around)
        self.assertEqual((found.gates, found.width), ((1, 2), 2))
        again = about(around_of(about(around_of(found))))
        for book in books:
            whole = count(book, filled(self.around, self.script))
            self.assertNotEqual(whole, (0, 1))
            self.assertEqual([paired(book, self.script, script) for script in (found, again)], [whole, whole])
            self.assertEqual(table(book, again), table(book, found))
            # What was told may be handed in again, also laid together with others.
            both = found * again
            self.assertEqual(table(book, both), table(book, found) * table(book, found))
            self.assertEqual(count(book, filled(around_of(both), self.script)), paired(book, both, self.script))
        self.assertEqual(Script(again.text), again)


class GreatNumbers(unittest.TestCase):
    def test_factors_of_a_thousand_figures(self):
        top, bottom = 10 ** 1000 - 1, 10 ** 999 + 7
        book = Book("book 0\nmark a 1\nkind k 1")
        script = Script(f"script\na = one 1\nb = add {top} a\nc = add 1/{bottom} b\nd = add {bottom} c")
        self.assertEqual(table(book, script).worths, ((top, 1),))
        around = Around(f"around h\na = add {top} h\nb = add 1/{bottom} a\nc = add -{top} b\nd = add {bottom} c")
        found = about(around)
        self.assertEqual(paired(book, Script("script\na = one"), found), (-top * top, 1))
        self.assertEqual(count(book, about(around_of(found))), (-top * top, 1))

    def test_what_was_told_of_rows(self):
        rows = tuple(tuple(as_worth(0, (at * 7919 + to * 104729) % 1000003 - 500000) for to in range(6)) for at in range(5))
        row = tuple((at ** 9 + 1, 2) if at % 2 == 0 else (at, 1) for at in range(6))
        found = in_span(0, rows, row)
        for _ in range(4):
            self.assertTrue(shows_in_span(0, rows, row, found))
            # Of what was told a row is made, and asked again.
            rows = rows[1:] + (found[1] + ((1, 1),) * (6 - len(found[1])),)
            found = in_span(0, rows, row)
        self.assertTrue(shows_in_span(0, rows, row, found))
        basis = kernel(0, rows + (row, rows[0]))
        self.assertTrue(shows_kernel(0, rows + (row, rows[0]), basis))
        self.assertTrue(shows_kernel(0, basis, kernel(0, basis)))
        self.assertEqual(determinant(0, rows[:1] + rows[:1] + rows[:4]), (0, 1))


if __name__ == "__main__":
    unittest.main()

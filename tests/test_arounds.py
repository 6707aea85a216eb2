"""Section 8: filled, about, around_of and paired, for every script and every book."""

import random
import unittest

from opengates.arounds import about, Around, around_of, filled, paired
from opengates.books import Book
from opengates.errors import BadFactor, NoKind, OtherGates
from opengates.scripts import Script
from opengates.tables import count, line_tables, table
from tests.drawing import (as_fraction, as_worth, bottoms_of, draw_around, draw_book, draw_script, kinds_of, nets_of_lines,
                           slow_worths)
from tests.helpers import expect, expect_very

BOOK = Book("book 0\nmark a 2\nmark b -3\nkind k 1 5 7 11\nkind l 0 1 -1 2")
FIVE = Book("book 5\nmark a 2\nmark b 3\nkind k 1 0 2 4\nkind l 0 1 4 2")


def script(*lines):
    return Script("\n".join(["script", *lines]))


def around(*lines):
    return Around("\n".join(lines))


def slow_paired(book, one, other):
    ones, others = table(book, one), table(book, other)
    total = 0
    for row in ones.rows:
        product = as_fraction(ones[row]) * as_fraction(others[row])
        for mark in row:
            product *= book.weight(mark)
        total += product
    return as_worth(book.by, total)


class Filled(unittest.TestCase):
    def test_lines_of_the_script_then_those_of_the_around(self):
        one = around("around h 1 2", "x1 = road k 1 2", "z = h * x1", "y = close 1 z", "x3 = one 3", "x = close 2 y")
        two = script("h = road l 2 1", "x2 = one 1", "q = h * x2")
        self.assertEqual(filled(one, two).text.split("\n"), [
            "script", "x1 = road l 2 1", "x2 = one 1", "x3 = x1 * x2", "x4 = road k 1 2", "x5 = x3 * x4", "x6 = close 1 x5",
            "x7 = one 3", "x8 = close 2 x6"])

    def test_every_form_that_has_the_hole(self):
        one = around("around x2 1 3", "a = turn 1 2 x2", "b = turn 2 1 a", "c = add 1/2 x2 -3 b 0 x2", "d = close 3 x2", "r = one 1",
                     "f = r * x2", "g = x2 * r", "i = close 1 d")
        found = filled(one, script("x1 = one 1 3"))
        self.assertEqual(found.text.split("\n"), [
            "script", "x1 = one 1 3", "x2 = turn 1 2 x1", "x3 = turn 2 1 x2", "x4 = add 1/2 x1 -3 x3 0 x1", "x5 = close 3 x1",
            "x6 = one 1", "x7 = x6 * x1", "x8 = x1 * x6", "x9 = close 1 x5"])
        self.assertEqual((found.gates, found.width), ((), 2))

    def test_other_gates(self):
        for gates in ("", " 1", " 2 4", " 1 2 3 4"):
            one = script(f"a = one{gates}")
            whole = around_of(one)
            self.assertEqual(whole.gates, one.gates)
            for others in ("", " 1", " 2", " 1 2", " 2 4", " 2 3 4", " 1 2 3 4"):
                other = script(f"a = one{others}")
                if others != gates:
                    expect_very(self, OtherGates, other, filled, whole, other)
                else:
                    self.assertEqual(filled(whole, other).gates, ())

    def test_drawn(self):
        chance = random.Random(60)
        for _ in range(150):
            gates = sorted(chance.sample([1, 2, 3, 4], chance.randint(0, 3)))
            one = draw_around(chance, gates)
            two = draw_script(chance, gates=tuple(gates))
            found = filled(one, two)
            # The same as renaming all lines by hand: those of the around, then those of the script, then the hole.
            names = {name: f"x{at}" for at, (name, _, _) in enumerate(one.lines, start=len(two) + 1)}
            names[one.hole] = f"x{len(two)}"
            its = {name: f"x{at}" for at, (name, _, _) in enumerate(two.lines, start=1)}
            rows = [" ".join(its.get(word, word) for word in row.split(" ")) for row in two.text.split("\n")[1:]]
            rows += [renamed(row, names) for row in one.text.split("\n")[1:]]
            self.assertEqual(found.text, "\n".join(["script", *rows]))
            self.assertEqual((found.gates, found.width, len(found)), ((), max(one.width, two.width), len(one.lines) + len(two)))


def renamed(row, names):
    return " ".join(names.get(word, word) for word in row.split(" "))


class Paired(unittest.TestCase):
    def test_sums_over_all_rows(self):
        one, other = script("a = road k 1 2"), script("a = road l 1 2", "b = add 1/2 a")
        # Weights 4, -6, -6, 9.
        self.assertEqual(paired(BOOK, one, other), ((-6 * 5 + 6 * 7 + 9 * 22) // 2, 1))
        self.assertEqual(paired(BOOK, other, one), (105, 1))
        self.assertEqual(paired(FIVE, one, other), ((6 * 0 + 6 * 2 * 4 + 9 * 4 * 2) * 3 % 5, 1))
        self.assertEqual(paired(BOOK, script("a = one 4"), script("a = one 4", "b = add 1/3 a")), (-1, 3))

    def test_without_gates_it_is_the_product(self):
        one, other = script("a = one", "b = add 2/3 a"), script("a = one", "b = add 5/7 a")
        self.assertEqual(paired(BOOK, one, other), (10, 21))
        self.assertEqual(paired(FIVE, one, other), (0, 1))

    def test_other_gates_come_first(self):
        bad = script("a = road m 1 2", "b = one 1")
        for other in (script("a = one 2"), script("a = one"), script("a = one 1 2"), script("a = road m 2 2")):
            expect_very(self, OtherGates, other, paired, BOOK, bad, other)
            expect_very(self, OtherGates, bad, paired, BOOK, other, bad)

    def test_script_errors_of_one_then_of_other(self):
        kind, factor = script("a = road m 1 1", "b = one 1"), script("a = one 1", "b = add 1/5 a")
        both = script("a = one 1", "b = add 1/10 a", "c = road n 1 1")
        fine = script("a = one 1")
        for one, other, error, value in (
                (kind, fine, NoKind, "m"), (fine, kind, NoKind, "m"), (factor, fine, BadFactor, (1, 5)),
                (fine, factor, BadFactor, (1, 5)), (kind, factor, NoKind, "m"), (factor, kind, BadFactor, (1, 5)),
                (both, kind, NoKind, "n"), (kind, both, NoKind, "m"), (factor, both, BadFactor, (1, 5)), (both, factor, NoKind, "n")):
            expect(self, error, value, paired, FIVE, one, other)
        self.assertEqual(paired(BOOK, factor, fine), (-1, 5))

    def test_drawn(self):
        chance = random.Random(61)
        for _ in range(150):
            book = draw_book(chance)
            one = draw_script(chance)
            other = draw_script(chance, gates=one.gates)
            found = paired(book, one, other)
            self.assertEqual(found, slow_paired(book, one, other))
            self.assertEqual(paired(book, other, one), found)
            self.assertEqual(count(book, (one * other).closed()), found)
            more = draw_script(chance, gates=one.gates)
            both = as_fraction(found) + as_fraction(paired(book, more, other))
            self.assertEqual(paired(book, one + more, other), as_worth(book.by, both))

    def test_against_all_ways(self):
        chance = random.Random(62)
        for _ in range(60):
            book = draw_book(chance, marks=chance.randint(1, 2))
            one = draw_script(chance, places=4, nets=3, lines=6)
            other = draw_script(chance, gates=one.gates, places=3, nets=3, lines=5)
            whole = (one * other).closed()
            self.assertEqual((paired(book, one, other),), slow_worths(book, nets_of_lines(whole)[whole.lines[-1][0]], ()))


class About(unittest.TestCase):
    def check(self, one, chance, books=2, scripts=2):
        """What about promises, tried with drawn scripts and books."""
        found = about(one)
        self.assertIs(type(found), Script)
        self.assertEqual(found.gates, one.gates)
        self.assertLessEqual(found.width, one.width, one.text)
        self.assertLessEqual(kinds_of(found.lines), kinds_of(one.lines))
        self.assertLessEqual({bottom for _, bottom in bottoms_of(found.lines)}, {bottom for _, bottom in bottoms_of(one.lines)})
        self.assertEqual(about(one), found)
        for _ in range(scripts):
            two = draw_script(chance, gates=one.gates, lines=6)
            whole = filled(one, two)
            for _ in range(books):
                book = draw_book(chance)
                self.assertEqual(paired(book, two, found), count(book, whole), (one.text, two.text, book.text))
        return found

    def test_each_form(self):
        chance = random.Random(63)
        for lines in (
                ["around h", "a = add 1 h"], ["around h", "a = add -1/11 h"], ["around h", "a = add 0 h"],
                ["around h", "a = add 1 h 1 h"], ["around h", "a = add 2 h", "b = add 1 a"], ["around h", "n = one", "a = n * h"],
                ["around h 1", "a = close 1 h"], ["around h 4", "a = close 4 h"], ["around h 1 2", "a = close 1 h", "b = close 2 a"],
                ["around h 1 2", "r = road k 1 2", "a = h * r", "b = close 1 a", "c = close 2 b"],
                ["around h 1 2", "r = road k 1 2", "a = r * h", "b = close 1 a", "c = close 2 b"],
                ["around h 1 2", "a = turn 1 3 h", "r = road k 3 2", "b = a * r", "c = close 3 b", "d = close 2 c"],
                ["around h 1 2", "a = turn 2 1 h", "r = road k 1 2", "b = a * r", "c = close 1 b", "d = close 2 c"],
                ["around h 2", "r = road k 2 4", "a = h * r", "s = road l 4 1", "b = a * s", "c = close 2 b", "d = close 4 c",
                 "e = close 1 d"],
                ["around h", "r = road k 1 2", "a = r * h", "c = close 1 a", "d = close 2 c"]):
            self.check(around(*lines), chance, 6, 3)

    def test_lines_that_are_used_twice(self):
        chance = random.Random(64)
        for lines in (
                ["around h 1", "r = road k 1 1", "a = h * r", "b = add 1/11 a -2 h 3 a", "c = close 1 b"],
                ["around h 1", "a = close 1 h", "r = road k 1 1", "b = h * r", "c = close 1 b", "d = add 2 c -1 a"],
                ["around h 1 2", "a = turn 1 2 h", "b = add 1 a 1 h", "r = road k 1 2", "c = b * r", "d = add 1 c -1/13 b",
                 "e = close 1 d", "f = close 2 e", "g = add 1 f 2 f"],
                ["around h 1", "r = road k 1 2", "a = h * r", "b = close 1 a", "c = turn 2 1 b", "d = add 1 c 1 h", "s = road l 1 1",
                 "e = d * s", "f = add 3 e -2 c", "g = close 1 f"],
                ["around h", "a = add 1 h", "b = add 1 a", "n = one", "c = b * n", "d = add 5 c -3 b 1/11 a 2 h"]):
            self.check(around(*lines), chance, 6, 3)

    def test_the_same_line_both_ways(self):
        # A line that does not hang, laid on the hole and on what it became.
        chance = random.Random(65)
        self.check(around("around h 1", "r = road k 1 2", "a = h * r", "b = close 1 a", "c = turn 1 2 b", "d = r * c", "e = close 1 d",
                          "f = close 2 e"), chance, 8, 4)

    def test_lines_that_nothing_uses(self):
        chance = random.Random(66)
        one = around("around h 1", "q = one 1", "b = h * q", "s = add 5/11 q", "a = close 1 h", "c = close 1 b", "z = add 2 a")
        self.check(one, chance, 8, 4)

    def test_the_hole_that_only_noughts_lead_to(self):
        chance = random.Random(67)
        found = self.check(around("around h 1", "a = add 0 h", "b = close 1 a"), chance)
        self.assertEqual(table(BOOK, found).worths, ((0, 1), (0, 1)))

    def test_drawn(self):
        chance = random.Random(68)
        lengths = set()
        for _ in range(400):
            gates = sorted(chance.sample([1, 2, 3, 4], chance.randint(0, 4)))
            one = draw_around(chance, gates, lines=chance.randint(1, 16))
            lengths.add(len(self.check(one, chance)))
        self.assertGreater(len(lengths), 20)

    def test_width_where_few_gates_are_drawn(self):
        chance = random.Random(69)
        for _ in range(200):
            among = sorted(chance.sample([1, 2, 3, 4], chance.randint(1, 2)))
            gates = sorted(chance.sample(among, chance.randint(0, len(among))))
            one = draw_around(chance, gates, among=among, lines=12)
            self.assertLessEqual(one.width, 2)
            self.check(one, chance, 1, 1)

    def test_plain_arounds(self):
        chance = random.Random(70)
        for _ in range(60):
            one = draw_around(chance, (1, 2), plain=True)
            found = self.check(one, chance, 1, 1)
            self.assertTrue(all(factor == (1, 1) for _, form, parts in found.lines if form == "add" for factor, _ in parts))

    def test_books_without_other_kinds_and_by_primes_that_divide_other_bottoms(self):
        one = around("around h 1", "r = road k 1 2", "a = h * r", "b = close 1 a", "c = add 1/2 b -4/3 b", "d = close 2 c")
        for by in (0, 5, 7, 97):
            book = Book(f"book {by}\nmark a 1\nmark b 2\nkind k 1 0 3 4")
            for two in (script("a = one 1"), script("a = road k 1 1", "b = add 3 a")):
                self.assertEqual(paired(book, two, about(one)), count(book, filled(one, two)))
        only = around("around h 1", "n = one", "a = add 1/2 n", "b = close 1 h")
        for by in (2, 3):
            book = Book(f"book {by}\nmark a 1\nkind k 1")
            if by == 2:
                expect(self, BadFactor, (1, 2), count, book, filled(only, script("a = one 1")))
            else:
                self.assertEqual(count(book, filled(only, script("a = one 1"))), (1, 1))

    def test_what_is_done_paired_with_what_is_to_come_is_one_number(self):
        # Guarantee (d): cut at each line that hangs, where each of these is used by the next one alone.
        chance = random.Random(71)
        for _ in range(80):
            book = draw_book(chance)
            filling = draw_script(chance, gates=(1, 2), lines=4)
            names = {name: f"s{at}" for at, (name, _, _) in enumerate(filling.lines)}
            names[filling.lines[-1][0]] = "h"
            ahead = [renamed(row, names) for row in filling.text.split("\n")[1:]]
            rows = chain(chance)
            whole = count(book, filled(around("around h 1 2", *rows), filling))
            for at, row in enumerate(rows):
                if row.startswith("r"):
                    continue
                done = script(*ahead, *rows[:at + 1])
                head = " ".join(["around", row.split(" ")[0]] + [str(gate) for gate in done.gates])
                rest = [other for other in rows[:at] if other.startswith("r")] + rows[at + 1:]
                if at + 1 < len(rows):
                    self.assertEqual(paired(book, done, about(around(head, *rest))), whole)
            self.assertEqual(paired(book, script(*ahead), about(around("around h 1 2", *rows))), whole)


def chain(chance):
    """Lines behind a hole h with the gates 1 and 2; those that do not hang have names that begin with r."""
    rows = []
    told, own = "h", {1, 2}
    for at in range(chance.randint(1, 7)):
        form = chance.choice(["*", "*", "close", "turn", "add"])
        if form == "*" or not own:
            start, end = chance.randint(1, 4), chance.randint(1, 4)
            rows += [f"r{at} = road k {start} {end}", f"a{at} = " + chance.choice([f"{told} * r{at}", f"r{at} * {told}"])]
            own = own | {start, end}
        elif form == "close":
            gate = chance.choice(sorted(own))
            rows.append(f"a{at} = close {gate} {told}")
            own = own - {gate}
        elif form == "turn":
            gate = chance.choice(sorted(own))
            other = chance.choice([left for left in (1, 2, 3, 4) if left != gate])
            rows.append(f"a{at} = turn {gate} {other} {told}")
            own = own if other in own else own - {gate} | {other}
        else:
            rows.append(f"a{at} = add {chance.choice(['2', '-1', '1/11'])} {told} 1 {told}")
        told = f"a{at}"
    for gate in sorted(own):
        rows.append(f"c{gate} = close {gate} {told}")
        told = f"c{gate}"
    return rows


class AroundOf(unittest.TestCase):
    def check(self, one, chance, books=2):
        found = around_of(one)
        self.assertIs(type(found), Around)
        self.assertEqual(found.gates, one.gates)
        self.assertLessEqual(found.width, one.width, one.text)
        self.assertLessEqual(kinds_of(found.lines), kinds_of(one.lines))
        self.assertLessEqual(bottoms_of(found.lines), bottoms_of(one.lines))
        self.assertEqual(around_of(one), found)
        back = about(found)
        self.assertEqual(back.gates, one.gates)
        for _ in range(books):
            book = draw_book(chance)
            self.assertEqual(table(book, back), table(book, one), (one.text, book.text))
            other = draw_script(chance, gates=one.gates, lines=5)
            self.assertEqual(count(book, filled(found, other)), paired(book, other, one))
        return found

    def test_each_form(self):
        chance = random.Random(72)
        for lines in (["a = one"], ["a = one 3"], ["a = one 1 2 3 4"], ["a = road k 2 1"], ["a = road k 4 4"],
                      ["a = road k 1 2", "b = close 2 a"], ["a = road k 1 2", "b = close 2 a", "c = close 1 b"],
                      ["a = road k 1 2", "b = turn 2 3 a"], ["a = road k 1 2", "b = road l 2 3", "c = a * b"],
                      ["a = one 1", "b = add 1/11 a -5/13 a 0 a"], ["a = one", "b = add 1/11 a"],
                      ["h = one 1 2", "x1 = road k 1 2", "x2 = h * x1"]):
            self.check(script(*lines), chance, 5)

    def test_drawn(self):
        chance = random.Random(73)
        for _ in range(250):
            gates = chance.choice([None, (), (1,), (2, 4), (1, 2, 3, 4)])
            self.check(draw_script(chance, gates=gates, lines=chance.randint(1, 12), places=9, nets=9), chance)

    def test_there_and_back(self):
        chance = random.Random(74)
        for _ in range(60):
            one = draw_around(chance, (1, 2), lines=8)
            first = about(one)
            again = about(around_of(first))
            more = about(around_of(again))
            book = draw_book(chance)
            self.assertEqual(table(book, again), table(book, first))
            self.assertEqual(table(book, more), table(book, first))
            two = draw_script(chance, gates=(1, 2))
            self.assertEqual(count(book, filled(around_of(again), two)), count(book, filled(one, two)))
            self.assertLessEqual(more.width, one.width)

    def test_books_without_other_kinds_and_by_any_prime(self):
        one = script("a = road k 1 2", "b = close 2 a", "c = add -1 b 3 b")
        for by in (2, 3, 5, 97):
            book = Book(f"book {by}\nmark a 1\nmark b 1\nkind k 1 0 1 1")
            self.assertEqual(table(book, about(around_of(one))), table(book, one))

    def test_a_kind_in_a_line_that_nothing_uses(self):
        one = script("a = road m 1 2", "b = one 1", "c = add 1/11 b", "d = one 1")
        self.assertEqual(table(BOOK, about(around_of(script("d = one 1")))).worths, ((1, 1), (1, 1)))
        self.assertLessEqual(kinds_of(around_of(one).lines), {"m"})
        self.assertLessEqual(kinds_of(about(around_of(one)).lines), {"m"})


class OtherNames(unittest.TestCase):
    def test_other_names_of_lines_and_of_the_hole_change_nothing_else(self):
        chance = random.Random(76)
        for _ in range(100):
            one = draw_around(chance, (2, 3), lines=9)
            names = [f"y{at}" for at in range(len(one.lines) + 1)]
            chance.shuffle(names)
            words = dict(zip([one.hole] + [name for name, _, _ in one.lines], names))
            other = Around("\n".join(renamed(row, words) for row in one.text.split("\n")))
            self.assertEqual((other.hole, other.gates, other.width), (words[one.hole], one.gates, one.width))
            self.assertEqual([words[name] for name, _, _ in one.lines], [name for name, _, _ in other.lines])
            two = draw_script(chance, gates=(2, 3))
            self.assertEqual(filled(other, two), filled(one, two))
            self.assertEqual(about(other), about(one))
            its = {name: f"z{at}" for at, (name, _, _) in enumerate(two.lines)}
            three = Script("\n".join(renamed(row, its) for row in two.text.split("\n")))
            self.assertEqual(filled(one, three), filled(one, two))
            book = draw_book(chance)
            self.assertEqual(table(book, about(around_of(three))), table(book, about(around_of(two))))

    def test_read_back_from_the_text(self):
        chance = random.Random(77)
        for _ in range(100):
            one = draw_around(chance, (1,))
            other = around_of(draw_script(chance))
            for found in (one, other):
                again = Around(found.text)
                self.assertEqual((again, vars(again)), (found, vars(found)))
            for found in (about(one), about(other), filled(one, Script("script\na = one 1"))):
                again = Script(found.text)
                self.assertEqual((again, vars(again)), (found, vars(found)))


class Line(unittest.TestCase):
    def test_the_worth_of_lines_is_linear_in_what_the_hole_is_worth(self):
        chance = random.Random(75)
        for _ in range(80):
            book = draw_book(chance)
            one = draw_around(chance, (1, 3), lines=9)
            two, three = draw_script(chance, gates=(1, 3)), draw_script(chance, gates=(1, 3))
            found = dict(line_tables(book, filled(one, two + three)))
            ones, others = dict(line_tables(book, filled(one, two))), dict(line_tables(book, filled(one, three)))
            last, its, more = [list(tables.values())[-1][0] for tables in (found, ones, others)]
            self.assertEqual(last, as_worth(book.by, as_fraction(its) + as_fraction(more)))


if __name__ == "__main__":
    unittest.main()

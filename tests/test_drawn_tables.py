"""Drawn scripts in drawn books: tables against going through all marks of all places."""

import random
import unittest

from opengates.books import Book, joined, melted, multiplied, renamed, twins
from opengates.scripts import exchanged, Script
from opengates.tables import count, line_tables, table
from tests.drawing import as_fraction, as_worth, draw_book, draw_script, nets_of_lines, slow_tables, slow_worths

PLACES = {1: 7, 2: 6, 3: 5, 4: 4}


def draws(seed, many, **named):
    """So many pairs of a book and a script, small enough to go through all marks."""
    chance = random.Random(seed)
    for _ in range(many):
        book = draw_book(chance)
        yield book, draw_script(chance, places=PLACES[len(book)], **named)


class Tables(unittest.TestCase):
    def test_line_by_line(self):
        unlike = set()
        for book, script in draws(1, 400):
            found = line_tables(book, script)
            self.assertEqual(found, slow_tables(book, script), (book.text, script.text))
            self.assertEqual(table(book, script).worths, found[-1][1])
            self.assertEqual((table(book, script).gates, table(book, script).book), (script.gates, book))
            unlike.update(found)
        self.assertGreater(len(unlike), 1000)

    def test_counts(self):
        for book, script in draws(2, 200, gates=()):
            slow = slow_worths(book, nets_of_lines(script)[script.lines[-1][0]], ())
            self.assertEqual((count(book, script),), slow)
            self.assertEqual(table(book, script).worths, slow)

    def test_by_a_prime_counts_are_the_remainders(self):
        chance = random.Random(3)
        for _ in range(150):
            by = chance.choice([2, 3, 5, 7, 97])
            book = draw_book(chance, by=by)
            plain = Book(book.text.replace(f"book {by}\n", "book 0\n"))
            script = draw_script(chance, plain=chance.random() < 0.5)
            for (name, worths), (its, fractions) in zip(line_tables(book, script), line_tables(plain, script)):
                self.assertEqual(name, its)
                for worth, (top, bottom) in zip(worths, fractions):
                    self.assertEqual(worth, (top * pow(bottom, -1, by) % by, 1))


class Operators(unittest.TestCase):
    """Section 5, in what scripts are worth: each against tables and against going through all marks."""

    def test_products_sums_differences(self):
        chance = random.Random(4)
        for _ in range(200):
            book = draw_book(chance)
            one, other = draw_script(chance), draw_script(chance)
            self.assertEqual(table(book, one * other), table(book, one) * table(book, other))
            self.assertEqual((one * other).gates, tuple(sorted(set(one.gates + other.gates))))
            same = draw_script(chance, gates=one.gates)
            ones, sames = table(book, one), table(book, same)
            self.assertEqual(table(book, one + same), ones + sames)
            self.assertEqual(table(book, one - same) + sames, ones)
            self.assertEqual(table(book, one - same), table(book, one + (-same)))
            noughts = tuple((0, 1) for _ in ones.rows)
            self.assertEqual((table(book, -one) + ones).worths, noughts)
            self.assertEqual(table(book, one - one).worths, noughts)

    def test_closed(self):
        chance = random.Random(5)
        for _ in range(150):
            book = draw_book(chance)
            one = draw_script(chance)
            t = table(book, one)
            total = 0
            for row in t.rows:
                weight = 1
                for mark in row:
                    weight *= book.weight(mark)
                total += weight * as_fraction(t[row])
            self.assertEqual(count(book, one.closed()), as_worth(book.by, total))

    def test_turned(self):
        chance = random.Random(6)
        turns = 0
        for _ in range(150):
            book = draw_book(chance, marks=chance.randint(2, 4))
            script = draw_script(chance)
            before = table(book, script)
            for one in (1, 2, 3, 4):
                for other in (1, 2, 3, 4):
                    if one == other or not {one, other} & set(script.gates):
                        continue
                    found = table(book, script.turned(one, other))
                    turned = {one: other, other: one}
                    self.assertEqual(found.gates, tuple(sorted(turned.get(gate, gate) for gate in script.gates)))
                    for row in found.rows:
                        marks = {turned.get(gate, gate): mark for gate, mark in zip(found.gates, row)}
                        self.assertEqual(found[row], before[tuple(marks[gate] for gate in script.gates)])
                    self.assertEqual(table(book, script.turned(one, other).turned(other, one)), before)
                    turns += 1
        self.assertGreater(turns, 300)

    def test_exchanged(self):
        chance = random.Random(7)
        for _ in range(100):
            book = draw_book(chance)
            script = draw_script(chance)
            name = chance.choice(script.lines)[0]
            other = draw_script(chance, gates=script.gates_of(name))
            found = dict(line_tables(book, exchanged(script, name, other)))
            at = [line[0] for line in script.lines].index(name)
            self.assertEqual(found[f"x{at + len(other)}"], table(book, other).worths)
            before = dict(line_tables(book, script))
            for number, (line, _, _) in enumerate(script.lines[:at], start=1):
                self.assertEqual(found[f"x{number}"], before[line])

    def test_exchanged_for_something_of_the_same_worth_changes_nothing(self):
        chance = random.Random(8)
        for _ in range(100):
            book = draw_book(chance)
            script = draw_script(chance)
            name, _, _ = chance.choice(script.lines)
            rows = script.text.split("\n")
            at = [line[0] for line in script.lines].index(name)
            alone = Script("\n".join(rows[:at + 2]))
            same = alone + alone - alone
            self.assertEqual(table(book, exchanged(script, name, same)), table(book, script))
            self.assertEqual(table(book, exchanged(script, name, alone)), table(book, script))

    def test_other_names_change_nothing_else(self):
        chance = random.Random(9)
        for _ in range(80):
            book = draw_book(chance)
            script = draw_script(chance)
            before = line_tables(book, script)
            found = line_tables(book, -script)
            self.assertEqual([worths for _, worths in found[:-1]], [worths for _, worths in before])
            names = tuple(chance.sample(["z", "y", "x", "w", "v", "u"], len(book)))
            self.assertEqual(line_tables(renamed(book, names), script), before)


class Books(unittest.TestCase):
    """Section 4: for all plain nets, what becomes of counts if books are renamed, melted, multiplied, joined."""

    def sorts(self, seed, many, most):
        chance = random.Random(seed)
        for _ in range(many):
            by = chance.choice([0, 0, 2, 5, 97])
            marks = chance.choice([pair for pair in ((1, 1), (1, 2), (2, 1), (2, 2), (1, 3), (3, 1), (1, 4)) if most(pair) <= 4])
            yield draw_book(chance, by, marks[0]), draw_book(chance, by, marks[1]), chance

    def test_multiplied(self):
        for one, other, chance in self.sorts(10, 200, lambda pair: pair[0] * pair[1]):
            script = draw_script(chance, gates=(), plain=True)
            both = as_fraction(count(one, script)) * as_fraction(count(other, script))
            self.assertEqual(count(multiplied(one, other), script), as_worth(one.by, both))

    def test_joined_on_nets_that_hang_together(self):
        for one, other, chance in self.sorts(11, 200, sum):
            script = hanging_together(chance)
            both = as_fraction(count(one, script)) + as_fraction(count(other, script))
            self.assertEqual(count(joined(one, other), script), as_worth(one.by, both))

    def test_melted(self):
        chance = random.Random(12)
        lots = 0
        for _ in range(300):
            book = with_twins(chance)
            lots += len(twins(book)) < len(book)
            script = draw_script(chance, gates=())
            self.assertEqual(count(melted(book), script), count(book, script))
            wide = draw_script(chance)
            small, great = table(melted(book), wide), table(book, wide)
            for row in small.rows:
                self.assertEqual(small[row], great[row])
        self.assertGreater(lots, 100)

    def test_renamed(self):
        chance = random.Random(13)
        for _ in range(100):
            book = draw_book(chance)
            other = renamed(book, ("w", "x", "y", "z")[:len(book)])
            script = draw_script(chance)
            self.assertEqual(table(other, script).worths, table(book, script).worths)
            self.assertEqual(count(other, script.closed()), count(book, script.closed()))


def hanging_together(chance):
    """A plain script without gates of a net of one place or more that hangs together."""
    rows = ["script", "a0 = " + chance.choice(["one 1", "road k 1 1", "road l 1 2", "road k 2 1"])]
    gates = {1, 2} if " 2" in rows[-1] else {1}
    for at in range(chance.randint(0, 6)):
        start = chance.choice(sorted(gates))
        end = chance.choice([1, 2, 3])
        rows += [f"r{at} = road {chance.choice('kl')} {start} {end}", f"a{at + 1} = a{at} * r{at}"]
        gates |= {end}
        if len(gates) > 1 and chance.random() < 0.4:
            gate = chance.choice(sorted(gates))
            rows[-1] = f"b{at} = a{at} * r{at}"
            rows.append(f"a{at + 1} = close {gate} b{at}")
            gates -= {gate}
    return Script("\n".join(rows)).closed()


def with_twins(chance):
    """A book by 0 with weights above 0, some of whose marks are rather twins."""
    lots = chance.choice([(0, 0), (0, 0, 1), (0, 1, 0, 1), (0, 0, 0, 1), (0, 1, 2, 0), (0, 1, 2, 3), (0,)])
    worths = {kind: [[chance.choice([0, 1, -2]) for _ in range(4)] for _ in range(4)] for kind in "kl"}
    rows = ["book 0"] + [f"mark {name} {chance.randint(1, 3)}" for name, _ in zip("pqrs", lots)]
    for kind in "kl":
        rows.append(" ".join(["kind", kind] + [str(worths[kind][one][other]) for one in lots for other in lots]))
    return Book("\n".join(rows))


if __name__ == "__main__":
    unittest.main()

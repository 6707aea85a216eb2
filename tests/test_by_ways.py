"""Section 6: by_ways, against tables and against going through all marks, and its errors."""

import random
import unittest

from opengates.books import Book, renamed
from opengates.errors import BadNet, BadRow, NoKind, TooMany
from opengates.nets import by_ways, net
from opengates.tables import table
from tests.drawing import draw_book, draw_script, slow_worths
from tests.helpers import any_values, expect, expect_very

BOOK = Book("book 0\nmark a 2\nmark b -3\nkind k 1 5 7 11\nkind l 0 1 -1 2")
FIVE = Book("book 5\nmark a 2\nmark b 4\nkind k 1 0 2 4\nkind l 0 1 4 2")


def book_of(many, by=0):
    names = "abcd"[:many]
    return Book("\n".join([f"book {by}"] + [f"mark {name} 1" for name in names] + ["kind k" + " 1" * many ** 2]))


class Ways(unittest.TestCase):
    def test_no_places(self):
        self.assertEqual(by_ways(BOOK, (0, (), ()), ()), (1, 1))
        self.assertEqual(by_ways(FIVE, (0, (), ()), ()), (1, 1))

    def test_weights_of_closed_places_alone_count(self):
        self.assertEqual(by_ways(BOOK, (1, (), ()), ()), (-1, 1))
        self.assertEqual(by_ways(BOOK, (3, (), ()), ()), (-1, 1))
        self.assertEqual(by_ways(FIVE, (3, (), ()), ()), (1, 1))
        for mark in ("a", "b"):
            self.assertEqual(by_ways(BOOK, (1, (), ((3, 0),)), (mark,)), (1, 1))
            self.assertEqual(by_ways(BOOK, (2, (), ((3, 1),)), (mark,)), (-1, 1))

    def test_roads_from_and_to(self):
        one = (2, (("k", 0, 1),), ((1, 0), (2, 1)))
        self.assertEqual([by_ways(BOOK, one, row) for row in (("a", "a"), ("a", "b"), ("b", "a"), ("b", "b"))],
                         [(1, 1), (5, 1), (7, 1), (11, 1)])
        other = (2, (("k", 0, 1),), ((1, 1), (2, 0)))
        self.assertEqual([by_ways(BOOK, other, row) for row in (("a", "b"), ("b", "a"))], [(7, 1), (5, 1)])
        self.assertEqual(by_ways(BOOK, (1, (("k", 0, 0),), ()), ()), (2 * 1 - 3 * 11, 1))
        self.assertEqual(by_ways(FIVE, (1, (("k", 0, 0),), ()), ()), ((2 * 1 + 4 * 4) % 5, 1))

    def test_roads_that_stand_more_than_once(self):
        one = (2, (("k", 0, 1), ("k", 0, 1), ("l", 0, 1), ("k", 1, 0)), ((1, 0), (2, 1)))
        self.assertEqual([by_ways(BOOK, one, row) for row in (("a", "b"), ("b", "a"), ("b", "b"))],
                         [(5 * 5 * 1 * 7, 1), (7 * 7 * -1 * 5, 1), (11 ** 3 * 2, 1)])

    def test_gates_ascend_whatever_their_places(self):
        one = (4, (("k", 3, 1), ("l", 2, 0)), ((1, 2), (2, 3), (3, 0), (4, 1)))
        # Gates 1 to 4 are the places 2, 3, 0, 1: k from gate 2 to 4, l from gate 1 to 3.
        self.assertEqual(by_ways(BOOK, one, ("a", "a", "b", "b")), (5 * 1, 1))
        self.assertEqual(by_ways(BOOK, one, ("b", "a", "a", "b")), (5 * -1, 1))
        self.assertEqual(by_ways(BOOK, one, ("b", "b", "b", "a")), (7 * 2, 1))

    def test_drawn(self):
        chance = random.Random(30)
        for _ in range(300):
            book = draw_book(chance)
            places = chance.randint(0, {1: 8, 2: 6, 3: 5, 4: 4}[len(book)])
            roads = tuple((chance.choice("kl"), chance.randrange(places), chance.randrange(places))
                          for _ in range(chance.randint(0, 9) if places else 0))
            at = chance.sample(range(places), min(places, chance.randint(0, 3)))
            gates = tuple(zip(sorted(chance.sample([1, 2, 3, 4], len(at))), at))
            slow = slow_worths(book, [(1, (places, roads, dict(gates)))], [gate for gate, _ in gates])
            rows = table(book, draw_script(chance, gates=tuple(gate for gate, _ in gates))).rows
            self.assertEqual(tuple(by_ways(book, (places, roads, gates), row) for row in rows), slow)

    def test_of_the_net_of_a_plain_script_it_is_the_table(self):
        chance = random.Random(31)
        for _ in range(250):
            book = draw_book(chance)
            script = draw_script(chance, plain=True, places={1: 20, 2: 9, 3: 7, 4: 6}[len(book)], nets=1, lines=12)
            found = table(book, script)
            self.assertEqual(tuple(by_ways(book, net(script), row) for row in found.rows), found.worths)

    def test_other_names_of_marks_change_nothing(self):
        one = (3, (("k", 0, 1), ("l", 1, 2)), ((2, 2),))
        other = renamed(BOOK, ("z", "y"))
        self.assertEqual([by_ways(BOOK, one, (mark,)) for mark in "ab"], [by_ways(other, one, (mark,)) for mark in "zy"])


class Bounds(unittest.TestCase):
    def test_how_many_ways(self):
        for marks, closed in ((2, 12), (3, 7), (4, 6)):
            book = book_of(marks)
            for gates in ((), ((1, 0),), ((1, 3), (2, 2), (3, 1), (4, 0))):
                row = ("a",) * len(gates)
                places = closed + len(gates)
                ways = marks ** closed
                self.assertEqual(by_ways(book, (places, (), gates), row), (ways, 1))
                expect(self, TooMany, marks * ways, by_ways, book, (places + 1, (), gates), row)
                expect(self, TooMany, marks ** (60 - len(gates)), by_ways, book, (60, (), gates), row)

    def test_one_mark_has_one_way(self):
        book = Book("book 0\nmark m 3\nkind k 2")
        self.assertEqual(by_ways(book, (60, (("k", 0, 59),) * 400, ()), ()), (3 ** 60 * 2 ** 400, 1))
        seven = Book("book 7\nmark m 3\nkind k 2")
        self.assertEqual(by_ways(seven, (60, (("k", 0, 59),) * 400, ()), ()), (3 ** 60 * 2 ** 400 % 7, 1))

    def test_many_roads(self):
        places = 12
        roads = tuple(("k", at % places, at * 5 % places) for at in range(400))
        self.assertEqual(by_ways(book_of(2, 97), (places, roads, ()), ()), (4096 % 97, 1))

    def test_too_many_comes_last(self):
        great = (60, (("k", 0, 1), ("m", 1, 1), ("n", 1, 1)), ((1, 0),))
        expect(self, NoKind, "m", by_ways, BOOK, great, ("a",))
        expect(self, NoKind, "m", by_ways, BOOK, great, ("c",))
        expect(self, BadRow, ("c",), by_ways, BOOK, (60, (("k", 0, 1),), ((1, 0),)), ("c",))
        expect(self, TooMany, 2 ** 59, by_ways, BOOK, (60, (("k", 0, 1),), ((1, 0),)), ("a",))


class Refused(unittest.TestCase):
    def test_bad_net_comes_first(self):
        for value in any_values() + [(2, (("m", 0, 2),), ()), [0, (), ()], (61, (), ()), (0, (), ((1, 0),))]:
            for row in ((), ("c",), None):
                expect_very(self, BadNet, value, by_ways, BOOK, value, row)

    def test_the_first_kind_that_the_book_does_not_have(self):
        for row in ((), ("a",), ("c",), None, 1):
            expect(self, NoKind, "m", by_ways, BOOK, (1, (("k", 0, 0), ("m", 0, 0), ("n", 0, 0), ("l", 0, 0)), ((1, 0),)), row)
            expect(self, NoKind, "a", by_ways, FIVE, (1, (("a", 0, 0), ("m", 0, 0)), ()), row)
            expect(self, NoKind, "kk", by_ways, FIVE, (1, (("kk", 0, 0),), ()), row)

    def test_rows(self):
        two = (3, (("k", 0, 1),), ((2, 2), (4, 0)))
        self.assertEqual(by_ways(BOOK, two, ("a", "b")), (2 * 7 - 3 * 11, 1))
        rows = [(), ("a",), ("a", "b", "a"), ("a", "c"), ("k", "a"), ["a", "b"], "ab", ("a", None), ("a", ("b",)), (1, "a"),
                {"a": "b"}, (("a", "b"),), ("a", True), ("A", "b"), (BOOK, "a"), ("a", ["b"])]
        for value in rows + [value for value in any_values() if value != ("a", "b")]:
            expect_very(self, BadRow, value, by_ways, BOOK, two, value)
        for value in [("a",), [], ((),), None, 0, False, "", {}]:
            expect_very(self, BadRow, value, by_ways, BOOK, (1, (), ()), value)


if __name__ == "__main__":
    unittest.main()

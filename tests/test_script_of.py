"""Section 6: script_of, that its script is of the net, and of the least width."""

import itertools
import random
import unittest

from opengates.errors import BadNet, TooMany, TooWide
from opengates.nets import by_ways, net, script_of
from opengates.scripts import Script
from opengates.tables import table
from tests.drawing import draw_book, kinds_of
from tests.helpers import any_values, expect, expect_very


def same_net(one, other):
    """Whether two nets are the same but for the numbers of places and the sequence of roads."""
    if one[0] != other[0] or len(one[1]) != len(other[1]) or [gate for gate, _ in one[2]] != [gate for gate, _ in other[2]]:
        return False
    tables = [between(found) for found in (one, other)]
    start = [place for _, place in one[2]]
    named = dict(zip(start, [place for _, place in other[2]]))
    return fits(tables, named, start) and leads(tables, named, [place for place in range(one[0]) if place not in start])


def between(found):
    """For each pair of places the sorted kinds of all roads from the one to the other."""
    kinds = {}
    for kind, start, end in sorted(found[1]):
        kinds[start, end] = kinds.get((start, end), "") + kind + " "
    return kinds


def fits(tables, named, places):
    return all(tables[0].get((one, other)) == tables[1].get((named[one], named[other]))
               for place in places for one, other in [pair for its in named for pair in ((place, its), (its, place))])


def leads(tables, named, left):
    """Whether the places that are left can be named such that all roads fit."""
    if not left:
        return True
    for its in range(8):
        if its not in named.values():
            longer = {**named, left[0]: its}
            if fits(tables, longer, [left[0]]) and leads(tables, longer, left[1:]):
                return True
    return False


def least_width(found):
    """The least width, by going through all sequences in which places can be closed."""
    places, roads, gates = found
    at_gates = [place for _, place in gates]
    closed = [place for place in range(places) if place not in at_gates]
    least = 99
    for order in itertools.permutations(closed):
        lots = [{start, end} for _, start, end in roads] + [{place} for place in range(places)]
        width = len(gates)
        for place in order:
            joined = set().union(*[lot for lot in lots if place in lot])
            width = max(width, len(joined))
            lots = [lot for lot in lots if place not in lot] + [joined - {place}]
            if width >= least:
                break
        least = min(least, width)
    return least


def ring(many, kind="e"):
    return tuple((kind, at, (at + 1) % many) for at in range(many))


def complete(many, kind="e"):
    return tuple((kind, one, other) for one in range(many) for other in range(one))


class ScriptOf(unittest.TestCase):
    def check(self, found, width=None):
        script = script_of(found)
        self.assertIs(type(script), Script)
        self.assertTrue(script.is_plain)
        self.assertTrue(same_net(net(script), found), (found, script.text))
        self.assertLessEqual(kinds_of(script.lines), {kind for kind, _, _ in found[1]})
        self.assertEqual(script.gates, tuple(gate for gate, _ in found[2]))
        self.assertEqual(script.width, least_width(found) if width is None else width)
        self.assertEqual(script_of(found), script)
        return script

    def test_without_roads(self):
        self.assertEqual(self.check((0, (), ())).width, 0)
        for places in range(1, 9):
            self.check((places, (), ()), 1)
            for many in range(1, min(places, 4) + 1):
                gates = tuple((gate, places - gate) for gate in range(1, many + 1))
                self.check((places, (), gates), many)

    def test_gates_that_are_not_the_first_ones(self):
        for gates in itertools.combinations([1, 2, 3, 4], 2):
            for at in ((0, 1), (1, 0), (2, 0), (0, 2), (2, 1)):
                self.check((3, (("k", 0, 1), ("l", 2, 0)), tuple(zip(gates, at))))
        for gates in itertools.permutations(range(4)):
            self.check((4, (("k", 0, 1), ("l", 1, 2), ("k", 3, 2)), tuple(zip((1, 2, 3, 4), gates))), 4)

    def test_loops_and_roads_that_stand_more_than_once(self):
        self.assertEqual(self.check((1, (("k", 0, 0),), ())).width, 1)
        self.assertEqual(self.check((1, (("k", 0, 0), ("l", 0, 0), ("k", 0, 0)), ((3, 0),))).width, 1)
        self.assertEqual(self.check((2, (("k", 0, 0), ("k", 1, 1)), ())).width, 1)
        self.assertEqual(self.check((2, (("k", 0, 1), ("k", 1, 0), ("k", 0, 1), ("l", 0, 1)), ())).width, 2)
        self.assertEqual(self.check((3, (("k", 0, 1),) * 3 + (("l", 2, 2),), ((4, 1),))).width, 2)

    def test_widths(self):
        self.check((8, tuple(("e", at, at + 1) for at in range(7)), ()), 2)
        self.check((8, tuple(("e", 7, at) for at in range(7)), ()), 2)
        self.check((8, ring(8), ()), 3)
        self.check((8, ring(4) + tuple(("e", at + 4, (at + 1) % 4 + 4) for at in range(4)), ()), 3)
        # A wheel: a ring of seven, and a place beside all of them.
        self.check((8, ring(7) + tuple(("e", 7, at) for at in range(7)), ()), 4)
        for many in (1, 2, 3, 4):
            self.assertEqual(self.check((many, complete(many), ())).width, many)
        grid = tuple(("e", at, at + 1) for at in (0, 1, 2, 4, 5, 6)) + tuple(("e", at, at + 4) for at in range(4))
        self.check((8, grid, ()), 3)

    def test_a_cube(self):
        cube = tuple(("e", one, one ^ bit) for one in range(8) for bit in (1, 2, 4) if one < one ^ bit)
        self.assertEqual(least_width((8, cube, ())), 4)
        self.check((8, cube, ()), 4)

    def test_four_and_five(self):
        for many in (5, 6, 7, 8):
            expect(self, TooWide, many, script_of, (many, complete(many), ()))
            near = complete(many)[1:]
            if many == 5:
                self.assertEqual(self.check((5, near, ())).width, 4)
            else:
                expect(self, TooWide, many - 1, script_of, (many, near, ()))
        # Four gates beside one closed place: it cannot be closed but beside all of them.
        gates = ((1, 0), (2, 1), (3, 2), (4, 3))
        star = tuple(("e", 4, at) for at in range(4))
        expect(self, TooWide, 5, script_of, (5, star, gates))
        self.assertEqual(self.check((5, star[1:], gates)).width, 4)
        self.assertEqual(self.check((5, star, gates[1:])).width, 4)
        self.assertEqual(self.check((5, star, ())).width, 2)

    def test_roads_beside_gates(self):
        # A ring with two gates: the places between them are closed beside both at last.
        self.assertEqual(self.check((6, ring(6), ((1, 0), (2, 3)))).width, 3)
        self.assertEqual(self.check((6, ring(6), ((1, 0),))).width, 3)
        self.assertEqual(self.check((4, ring(4), ((1, 0), (2, 1), (3, 2), (4, 3)))).width, 4)
        both = (8, tuple(("e", at, 4 + at) for at in range(4)) + tuple(("e", 4 + at, 4 + (at + 1) % 4) for at in range(4)),
                ((1, 0), (2, 1), (3, 2), (4, 3)))
        expect(self, TooWide, least_width(both), script_of, both)

    def test_how_many_places(self):
        self.check((8, ring(8), ((1, 7),)), 3)
        for places in (9, 10, 60):
            expect(self, TooMany, places, script_of, (places, (), ()))
            expect(self, TooMany, places, script_of, (places, complete(8), ()))
            expect(self, TooMany, places, script_of, (places, complete(8), ((1, 8),)))

    def test_bad_net_comes_first(self):
        for value in any_values() + [(9, (("k", 0, 9),), ()), (61, (), ()), [9, (), ()], (8, complete(8), ((0, 0),))]:
            expect_very(self, BadNet, value, script_of, value)

    def test_four_hundred_roads(self):
        roads = tuple((f"{'kl'[at % 2]}", at % 8, (at + at // 8 % 2) % 8) for at in range(400))
        script = self.check((8, roads, ((1, 5), (3, 2))))
        self.assertGreater(len(script), 400)

    def test_drawn(self):
        chance = random.Random(40)
        widths = [0] * 9
        for _ in range(500):
            places = chance.randint(1, 7)
            roads = tuple((chance.choice("kl"), chance.randrange(places), chance.randrange(places))
                          for _ in range(chance.choice([1, 3, 6, 9, 12, 20])))
            at = chance.sample(range(places), min(places, chance.randint(0, 4)))
            found = (places, roads, tuple(zip(sorted(chance.sample([1, 2, 3, 4], len(at))), at)))
            width = least_width(found)
            widths[width] += 1
            if width > 4:
                expect(self, TooWide, width, script_of, found)
                continue
            script = self.check(found, width)
            book = draw_book(chance, marks=2)
            told = table(book, script)
            self.assertEqual(tuple(by_ways(book, found, row) for row in told.rows), told.worths)
        self.assertTrue(all(many > 10 for many in widths[1:6]), widths)

    def test_nets_of_its_own_scripts(self):
        chance = random.Random(41)
        for _ in range(60):
            places = chance.randint(2, 8)
            roads = tuple(("k", chance.randrange(at), at) for at in range(1, places))
            found = (places, roads, ((2, chance.randrange(places)),))
            # A tree is closed from its outer places on.
            script = self.check(found, 2)
            self.assertTrue(same_net(net(script_of(net(script))), found))


if __name__ == "__main__":
    unittest.main()

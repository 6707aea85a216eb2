"""Section 6: which values are nets, and the nets of plain scripts, line by line."""

import random
import unittest

from opengates.books import Book
from opengates.errors import BadNet, NotPlain, TooMany
from opengates.nets import by_ways, net, script_of
from opengates.scripts import Script
from tests.drawing import draw_script, nets_of_lines
from tests.helpers import any_values, expect, expect_very, nested

BOOK = Book("book 0\nmark m 2\nkind k 3")
NONE = (0, (), ())


def script(*lines):
    return Script("\n".join(["script", *lines]))


class Values(unittest.TestCase):
    """BadNet, as by_ways and script_of tell it."""

    def good(self, value):
        places, roads, gates = value
        worth = 3 ** len(roads) * 2 ** (places - len(gates))
        self.assertEqual(by_ways(BOOK, value, ("m",) * len(gates)), (worth, 1))
        if value[0] <= 8:
            script_of(value)
        else:
            expect(self, TooMany, value[0], script_of, value)

    def bad(self, value):
        expect_very(self, BadNet, value, script_of, value)
        # Whatever else is wrong, this comes first.
        for row in ((), ("m",), None):
            expect_very(self, BadNet, value, by_ways, BOOK, value, row)

    def test_values_of_every_kind(self):
        for value in any_values() + [NONE[:2], NONE + ((),), (NONE,), [0, (), ()], "net", (0, 0, 0), nested(NONE, 3)]:
            self.bad(value)

    def test_places(self):
        for places in (0, 1, 8, 9, 59, 60):
            self.good((places, (), ()))
        for places in [61, 100, -1, 10 ** 30, True, False, None, "1", "", (), (1,), [1], BOOK] + any_values():
            if type(places) is not int or not 0 <= places <= 60:
                self.bad((places, (), ()))

    def test_roads(self):
        road = ("k", 0, 1)
        self.good((2, (road,), ()))
        self.good((2, (road, road, ("k", 1, 0), ("k", 1, 1), ("k", 0, 0)), ()))
        self.good((60, (("k", 59, 0), ("k", 0, 59)), ()))
        for value in any_values() + [[road], road, (road, road, None), {road: road}, ((road,),), "k01", (road, [road])]:
            if value != ():
                self.bad((2, value, ()))

    def test_how_many_roads(self):
        road = ("k", 0, 0)
        self.good((1, (road,) * 400, ()))
        self.bad((1, (road,) * 401, ()))
        self.bad((1, (road,) * 1000, ()))

    def test_one_road(self):
        for value in any_values() + [["k", 0, 0], ("k", 0), ("k", 0, 0, 0), ("k",), ("k", (0, 0)), "k", "k00", {"k": 0}]:
            self.bad((1, (value,), ()))
            self.bad((1, (("k", 0, 0), value), ()))

    def test_kinds(self):
        for kind in ("a", "z", "ab", "zzzz", "one", "road", "k"):
            value = (1, ((kind, 0, 0),), ())
            self.assertEqual(script_of(value).lines[0][:2], ("x1", "road"))
        for kind in any_values() + ["K", "k1", "abcde", "", "k ", " k", "a.b", "a\n", "\u00e4", "`", "{", 0, ("k",), ["k"]]:
            if kind != "zz":
                self.bad((1, ((kind, 0, 0),), ()))
                self.bad((1, (("k", 0, 0), (kind, 0, 0)), ()))

    def test_ends(self):
        for places in (1, 2, 60):
            self.good((places, (("k", places - 1, 0),), ()))
            for end in (places, places + 1, -1, 60, 61):
                self.bad((places, (("k", 0, end),), ()))
                self.bad((places, (("k", end, 0),), ()))
        for end in any_values() + ["0", (0,), [0], None, False, True]:
            if type(end) is not int or end > 1 or end < 0:
                self.bad((2, (("k", 0, end),), ()))
                self.bad((2, (("k", end, 0),), ()))
                self.bad((2, (), ((1, end),)))
        self.bad((0, (("k", 0, 0),), ()))

    def test_gates(self):
        for gates in ((), ((1, 0),), ((4, 1),), ((1, 1), (2, 0)), ((1, 3), (2, 2), (3, 1), (4, 0)), ((2, 0), (4, 3))):
            self.good((4, (), gates))
        for gates in (((2, 0), (1, 1)), ((1, 0), (1, 1)), ((1, 0), (1, 0)), ((1, 0), (2, 0)), ((0, 0),), ((5, 0),), ((-1, 0),),
                      ((1, 4),), ((1, -1),), ((1,),), ((1, 0, 0),), (1, 0), ([1, 0],), [(1, 0)], {1: 0}, {(1, 0): 1},
                      ((True, 0),), ((1, True),), ((1, False),), (("1", 0),), ((None, 0),), ((1, 0), None), (((1, 0),),),
                      ((1, 0), (3, 1), (2, 2)), ((1, 0), (2, 1), (3, 0)), ((1, 0), (2, 1), (3, 2), (4, 3), (5, 3))):
            self.bad((4, (), gates))
        for value in any_values():
            if value != ():
                self.bad((4, (), value))
                self.bad((4, (), (value,)))
                self.bad((4, (), ((value, 0),)) if type(value) is not int or not 1 <= value <= 4 else (4, (), ((value,),)))

    def test_near_nets(self):
        right = (3, (("k", 0, 1), ("k", 1, 2)), ((1, 0), (3, 2)))
        self.good(right)
        self.bad(list(right))
        self.bad((right[0], list(right[1]), right[2]))
        self.bad((right[0], right[1], list(right[2])))
        self.bad((right[0], (list(right[1][0]), right[1][1]), right[2]))
        self.bad((right[0], right[1], (list(right[2][0]), right[2][1])))
        self.bad((2, right[1], right[2]))
        self.bad((right[1], right[0], right[2]))
        self.bad((right[0], right[2], right[1]))
        self.bad(((right,),))


class Lines(unittest.TestCase):
    def test_one(self):
        self.assertEqual(net(script("a = one")), (0, (), ()))
        self.assertEqual(net(script("a = one 3")), (1, (), ((3, 0),)))
        self.assertEqual(net(script("a = one 2 4")), (2, (), ((2, 0), (4, 1))))
        self.assertEqual(net(script("a = one 1 2 3 4")), (4, (), ((1, 0), (2, 1), (3, 2), (4, 3))))

    def test_road(self):
        self.assertEqual(net(script("a = road k 1 2")), (2, (("k", 0, 1),), ((1, 0), (2, 1))))
        self.assertEqual(net(script("a = road k 4 3")), (2, (("k", 1, 0),), ((3, 0), (4, 1))))
        self.assertEqual(net(script("a = road abcd 3 3")), (1, (("abcd", 0, 0),), ((3, 0),)))

    def test_product(self):
        two = ["a = road k 1 2", "b = road l 2 3"]
        self.assertEqual(net(script(*two, "c = a * b")), (3, (("k", 0, 1), ("l", 1, 2)), ((1, 0), (2, 1), (3, 2))))
        self.assertEqual(net(script(*two, "c = b * a")), (3, (("l", 0, 1), ("k", 2, 0)), ((1, 2), (2, 0), (3, 1))))
        self.assertEqual(net(script("a = road k 1 2", "b = a * a")), (2, (("k", 0, 1), ("k", 0, 1)), ((1, 0), (2, 1))))
        self.assertEqual(net(script("a = one 1", "b = one 2", "c = b * a")), (2, (), ((1, 1), (2, 0))))

    def test_product_of_more_places(self):
        # The other places of the second one follow in their sequence, whatever gates they have.
        first = ["a = one 1 2 3", "b = road k 2 4", "c = a * b", "d = close 1 c", "e = close 3 d"]
        second = ["p = one 3", "q = close 3 p", "r = road l 4 1", "s = q * r", "t = s * p"]
        self.assertEqual(net(script(*first)), (4, (("k", 1, 3),), ((2, 1), (4, 3))))
        self.assertEqual(net(script(*second)), (4, (("l", 2, 1),), ((1, 1), (3, 3), (4, 2))))
        both = (7, (("k", 1, 3), ("l", 3, 5)), ((1, 5), (2, 1), (3, 6), (4, 3)))
        self.assertEqual(net(script(*first, *second, "z = e * t")), both)
        other = (7, (("l", 2, 1), ("k", 5, 2)), ((1, 1), (2, 5), (3, 3), (4, 2)))
        self.assertEqual(net(script(*first, *second, "z = t * e")), other)

    def test_close(self):
        self.assertEqual(net(script("a = road k 1 2", "b = close 1 a")), (2, (("k", 0, 1),), ((2, 1),)))
        self.assertEqual(net(script("a = road k 1 2", "b = close 2 a", "c = close 1 b")), (2, (("k", 0, 1),), ()))
        self.assertEqual(net(script("a = one 1", "b = close 1 a", "c = b * b")), (2, (), ()))

    def test_turn(self):
        self.assertEqual(net(script("a = road k 1 2", "b = turn 2 1 a")), (2, (("k", 0, 1),), ((1, 1), (2, 0))))
        self.assertEqual(net(script("a = road k 1 2", "b = turn 2 4 a")), (2, (("k", 0, 1),), ((1, 0), (4, 1))))
        self.assertEqual(net(script("a = road k 2 3", "b = turn 4 2 a")), (2, (("k", 0, 1),), ((3, 1), (4, 0))))
        self.assertEqual(net(script("a = one 1 2 3", "b = turn 1 3 a")), (3, (), ((1, 2), (2, 1), (3, 0))))

    def test_lines_used_twice_stand_there_twice(self):
        lines = ["a = road k 1 2", "b = close 2 a", "c = b * b", "d = c * b"]
        self.assertEqual(net(script(*lines)), (4, (("k", 0, 1), ("k", 0, 2), ("k", 0, 3)), ((1, 0),)))
        lines = ["a = road k 1 2", "b = close 2 a", "c = close 1 b", "d = c * c"]
        self.assertEqual(net(script(*lines)), (4, (("k", 0, 1), ("k", 2, 3)), ()))

    def test_lines_that_nothing_uses_are_not_in_it(self):
        self.assertEqual(net(script("a = road k 1 2", "b = one 3")), (1, (), ((3, 0),)))

    def test_drawn_scripts(self):
        chance = random.Random(20)
        seen = set()
        for _ in range(600):
            one = draw_script(chance, plain=True, places=12, nets=1, lines=chance.randint(1, 14))
            (factor, (places, roads, gates)), = nets_of_lines(one)[one.lines[-1][0]]
            found = net(one)
            self.assertEqual(found, (places, tuple(roads), tuple(sorted(gates.items()))))
            self.assertEqual((type(found[1]), type(found[2])), (tuple, tuple))
            seen.add(found)
        self.assertGreater(len(seen), 350)


class Refused(unittest.TestCase):
    def test_not_plain_tells_the_first_line_that_adds(self):
        expect(self, NotPlain, "b", net, script("a = one", "b = add 1 a"))
        expect(self, NotPlain, "z", net, script("b = one", "z = add 1 b", "a = add 1 z", "c = one"))
        # Ahead of what is too great.
        rows = ["a0 = one 1", "b0 = close 1 a0"] + [f"b{at + 1} = b{at} * b{at}" for at in range(10)]
        expect(self, NotPlain, "z", net, script(*rows, "z = add 1 b0", "y = b10 * b10"))
        expect(self, TooMany, 1024, net, script(*rows))

    def places(self, many):
        """A script with so many places, and one closed road."""
        rows = ["a = road k 1 1", "p = close 1 a", "q = one 1", "r = close 1 q", "x2 = p * r"]
        return script(*rows, *[f"x{at + 1} = x{at} * r" for at in range(2, many)])

    def test_sixty_places(self):
        self.assertEqual(net(self.places(60)), (60, (("k", 0, 0),), ()))
        expect(self, TooMany, 61, net, self.places(61))
        expect(self, TooMany, 62, net, self.places(62))

    def roads(self, many):
        return script("a1 = road k 1 2", "b = road l 1 1", *[f"a{at + 1} = a{at} * b" for at in range(1, many)])

    def test_four_hundred_roads(self):
        self.assertEqual(net(self.roads(399)), (2, (("k", 0, 1),) + (("l", 0, 0),) * 398, ((1, 0), (2, 1))))
        self.assertEqual(len(net(script("a = road k 1 2", *doubled("a", 400)))[1]), 400)
        expect(self, TooMany, 401, net, script("a = road k 1 2", *doubled("a", 401)))

    def test_only_roads_are_counted_as_roads(self):
        ones = ["o = one 1", "p = one 1 2", "q = o * p", "r = close 1 o", "s = turn 1 2 q", "t = s * r"]
        for many in (399, 400):
            lines = ["a = road k 1 2", *doubled("a", many)]
            last = lines[-1].split(" ")[0]
            found = net(script(*ones, *lines, f"z = {last} * t"))
            self.assertEqual((found[0], found[1]), (3, (("k", 0, 1),) * many))
        lines = ["a = road k 1 2", *doubled("a", 401)]
        expect(self, TooMany, 401, net, script(*ones, *lines, f"z = {lines[-1].split(' ')[0]} * t"))
        expect(self, TooMany, 403, net, script(*ones, *lines, f"y = {lines[-1].split(' ')[0]} * a", "x = y * t", "z = a * x"))

    def test_places_at_gates_of_both_are_counted_once(self):
        # 56 closed places beside those at the gates of both.
        lines = ["a = one 1", "c0 = close 1 a", *doubled("c0", 56)]
        last = lines[-1].split(" ")[0]
        for gates, other, places in ((" 1 2 3", " 1 2 3", 59), (" 1 2 3", " 2 3 4", 60), (" 1 2", " 3 4", 60), ("", " 1 2 3 4", 60),
                                     (" 1 2 3 4", " 1 2 3 4", 60)):
            found = net(script(*lines, f"x = one{gates}", f"y = one{other}", "z = x * y", f"w = z * {last}"))
            self.assertEqual(found[0], places)
            more = script(*lines, f"x = one{gates}", f"y = one{other}", f"v = {last} * x", "u = c0 * y", "z = u * v", "w = z * c0")
            if places == 60:
                expect(self, TooMany, 62, net, more)
            else:
                expect(self, TooMany, 61, net, more)

    def test_places_come_ahead_of_roads(self):
        rows = ["a = road k 1 2", "b = close 1 a", "c = close 2 b"]
        expect(self, TooMany, 802, net, script(*rows, *doubled("c", 401)))
        expect(self, TooMany, 62, net, script(*rows, *doubled("c", 31)))
        self.assertEqual(net(script(*rows, *doubled("c", 30)))[0], 60)

    def test_only_what_the_last_line_has_counts(self):
        rows = ["a = road k 1 2", "b = close 1 a", "c = close 2 b", *doubled("c", 1000), "z = one 4"]
        self.assertEqual(net(script(*rows)), (1, (), ((4, 0),)))

    def test_very_great_numbers(self):
        rows = ["a0 = one 1", "b0 = close 1 a0"] + [f"b{at + 1} = b{at} * b{at}" for at in range(397)]
        expect(self, TooMany, 2 ** 397, net, script(*rows))
        rows = ["b0 = road k 1 2"] + [f"b{at + 1} = b{at} * b{at}" for at in range(398)]
        expect(self, TooMany, 2 ** 398, net, script(*rows))
        # Beside its gate each line has twice the other places of the one ahead.
        rows = ["a0 = road k 1 2", "b0 = close 2 a0"] + [f"b{at + 1} = b{at} * b{at}" for at in range(397)]
        expect(self, TooMany, 2 ** 397 + 1, net, script(*rows))
        rows = ["b0 = road k 1 2"] + [f"b{at + 1} = b{at} * b{at}" for at in range(396)]
        self.assertEqual(net(script(*rows, "z = one")), (0, (), ()))


def doubled(name, many):
    """Lines that lay so many copies of a line together, two at least."""
    rows = []
    found = None
    for at in range(many.bit_length()):
        if many >> at & 1:
            if found is not None:
                rows.append(f"s{at} = {found} * {name}")
            found = name if found is None else f"s{at}"
        if many >> at > 1:
            rows.append(f"d{at} = {name} * {name}")
            name = f"d{at}"
    # All of them together stand last, also for a power of two.
    return rows


if __name__ == "__main__":
    unittest.main()

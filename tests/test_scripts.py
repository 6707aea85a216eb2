"""Section 5: what scripts tell, and what becomes of them."""

import unittest

from opengates.books import Book
from opengates.errors import BadGates, NoName, OtherGates
from opengates.scripts import exchanged, Script
from tests.helpers import any_values, expect, expect_very

ALL = Script("\n".join([
    "script", "p = one", "q = one 1 2", "r = road k 2 1", "s = q * r", "t = close 2 s", "u = turn 1 3 t",
    "v = add 1/2 u -3 u 0 u", "w = v * q"]))
PAIR = Script("script\na = one 1\nb = road k 1 1\nc = a * b")


def lines(script):
    return script.text.split("\n")[1:]


class WhatScriptsTell(unittest.TestCase):
    def test_length_is_how_many_lines_stand_behind_the_first(self):
        self.assertEqual([len(ALL), len(PAIR), len(Script("script\na = one"))], [8, 3, 1])

    def test_in_asks_for_names_of_lines(self):
        self.assertEqual([value in PAIR for value in ("a", "b", "c", "k", "one", "script")], [True] * 3 + [False] * 3)
        for value in any_values() + [("a",), ["a"], {"a": "a"}, PAIR.text]:
            self.assertIs(value in PAIR, False)

    def test_equal_if_the_texts_are(self):
        again = Script(PAIR.text)
        self.assertTrue(again == PAIR and not again != PAIR)
        other = Script("script\na = one 1\nb = road k 1 1\nd = a * b")
        self.assertTrue(other != PAIR and not other == PAIR)
        for value in any_values() + [PAIR.text, PAIR.lines, (PAIR,), [PAIR], Book("book 0\nmark a 1\nkind k 1")]:
            self.assertIs(PAIR == value, False)
            self.assertIs(value == PAIR, False)
            self.assertIs(PAIR != value, True)

    def test_gates_of(self):
        found = [ALL.gates_of(name) for name in "pqrstuvw"]
        self.assertEqual(found, [(), (1, 2), (1, 2), (1, 2), (1,), (3,), (3,), (1, 2, 3)])

    def test_no_name(self):
        for value in any_values() + ["k", "x1", "d", ["a"], ("a",), {"a": "a"}, PAIR]:
            expect_very(self, NoName, value, PAIR.gates_of, value)


class Operators(unittest.TestCase):
    def test_product(self):
        other = Script("script\na = one 2 3\nx1 = close 3 a")
        both = PAIR * other
        self.assertEqual(lines(both), ["x1 = one 1", "x2 = road k 1 1", "x3 = x1 * x2", "x4 = one 2 3",
                                       "x5 = close 3 x4", "x6 = x3 * x5"])
        self.assertEqual([both.gates, both.width, both.is_plain], [(1, 2), 2, True])
        self.assertEqual(lines(other * PAIR)[-1], "x6 = x2 * x5")

    def test_every_form_is_written_with_new_names(self):
        self.assertEqual(lines(ALL * PAIR)[:8], [
            "x1 = one", "x2 = one 1 2", "x3 = road k 2 1", "x4 = x2 * x3", "x5 = close 2 x4", "x6 = turn 1 3 x5",
            "x7 = add 1/2 x6 -3 x6 0 x6", "x8 = x7 * x2"])
        self.assertEqual(lines(PAIR * ALL)[3:11], [
            "x4 = one", "x5 = one 1 2", "x6 = road k 2 1", "x7 = x5 * x6", "x8 = close 2 x7", "x9 = turn 1 3 x8",
            "x10 = add 1/2 x9 -3 x9 0 x9", "x11 = x10 * x5"])

    def test_sum_and_difference(self):
        other = Script("script\nz = one 1")
        ahead = ["x1 = one 1", "x2 = road k 1 1", "x3 = x1 * x2", "x4 = one 1"]
        self.assertEqual(lines(PAIR + other), ahead + ["x5 = add 1 x3 1 x4"])
        self.assertEqual(lines(PAIR - other), ahead + ["x5 = add 1 x3 -1 x4"])
        self.assertEqual(lines(other + PAIR)[-1], "x5 = add 1 x1 1 x4")
        self.assertEqual(lines(other - PAIR)[-1], "x5 = add 1 x1 -1 x4")
        self.assertIs((PAIR + other).is_plain, False)

    def test_with_itself(self):
        self.assertEqual(lines(PAIR * PAIR)[3:], ["x4 = one 1", "x5 = road k 1 1", "x6 = x4 * x5", "x7 = x3 * x6"])
        self.assertEqual(lines(PAIR + PAIR)[-1], "x7 = add 1 x3 1 x6")
        self.assertEqual(lines(PAIR - PAIR)[-1], "x7 = add 1 x3 -1 x6")

    def test_minus(self):
        self.assertEqual(lines(-PAIR), ["x1 = one 1", "x2 = road k 1 1", "x3 = x1 * x2", "x4 = add -1 x3"])
        self.assertEqual((-ALL).gates, ALL.gates)

    def test_other_gates(self):
        for gates in ("", " 2", " 1 2", " 1 2 3 4"):
            other = Script(f"script\nz = one{gates}")
            expect_very(self, OtherGates, other, lambda: PAIR + other)
            expect_very(self, OtherGates, other, lambda: PAIR - other)
            expect_very(self, OtherGates, PAIR, lambda: other + PAIR)
            expect_very(self, OtherGates, PAIR, lambda: other - PAIR)
            self.assertEqual(len(PAIR * other), 5)

    def test_only_the_gates_of_the_last_lines_count(self):
        other = Script("script\na = one 1 2 3\nb = close 2 a\nc = close 3 b")
        self.assertEqual((PAIR + other).gates, (1,))

    def test_names_that_are_x_and_a_number_already(self):
        other = Script("script\nx3 = one 1\nx1 = one 2\nx2 = x3 * x1\nx01 = add 2 x2 5 x2")
        self.assertEqual(lines(-other), ["x1 = one 1", "x2 = one 2", "x3 = x1 * x2", "x4 = add 2 x3 5 x3", "x5 = add -1 x4"])
        self.assertEqual(lines(exchanged(other, "x2", other))[2:], [
            "x3 = one 1", "x4 = one 2", "x5 = x3 * x4", "x6 = add 2 x5 5 x5", "x7 = add 2 x6 5 x6"])


class Closed(unittest.TestCase):
    def test_one_line_for_each_gate_ascending(self):
        self.assertEqual(lines(ALL.closed())[7:], ["x8 = x7 * x2", "x9 = close 1 x8", "x10 = close 2 x9", "x11 = close 3 x10"])
        self.assertEqual(ALL.closed().gates, ())
        self.assertEqual(lines(Script("script\na = one 2 4").closed()), ["x1 = one 2 4", "x2 = close 2 x1", "x3 = close 4 x2"])

    def test_without_gates_only_the_names_change(self):
        self.assertEqual(Script("script\na = one 1\nb = close 1 a").closed().text, "script\nx1 = one 1\nx2 = close 1 x1")


class Turned(unittest.TestCase):
    def test_one_is_written_ahead_of_other(self):
        two = Script("script\na = one 2 4")
        self.assertEqual(lines(two.turned(2, 4)), ["x1 = one 2 4", "x2 = turn 2 4 x1"])
        self.assertEqual(lines(two.turned(4, 2))[1], "x2 = turn 4 2 x1")
        self.assertEqual([two.turned(1, 4).gates, two.turned(4, 1).gates, two.turned(2, 3).gates], [(1, 2), (1, 2), (3, 4)])
        self.assertEqual(lines(two.turned(1, 4))[1], "x2 = turn 1 4 x1")

    def test_gates_that_cannot_be_exchanged(self):
        two = Script("script\na = one 2 4")
        for one, other in ((1, 1), (2, 2), (1, 3), (3, 1), (0, 2), (2, 0), (2, 5), (5, 2), (-2, 2), (2, 10 ** 20)):
            expect(self, BadGates, (one, other), two.turned, one, other)
        none = Script("script\na = one")
        for one in range(0, 6):
            for other in range(0, 6):
                expect(self, BadGates, (one, other), none.turned, one, other)

    def test_any_value_that_is_no_gate(self):
        one_gate = Script("script\na = one 1")
        for value in any_values() + ["2", (2,), [2], 5, 0, (1, 2), one_gate]:
            if type(value) is int and value in (1, 2):
                continue
            for pair in ((1, value), (value, 1), (value, value), (value, None), (2, value)):
                raised = None
                try:
                    one_gate.turned(*pair)
                except BadGates as error:
                    raised = error
                self.assertIs(type(raised.value), tuple)
                self.assertEqual(len(raised.value), 2)
                self.assertIs(raised.value[0], pair[0])
                self.assertIs(raised.value[1], pair[1])

    def test_true_is_not_one(self):
        script = Script("script\na = one 1")
        for pair in ((True, 2), (2, True), (True, False), (1, True)):
            self.assertRaises(BadGates, script.turned, *pair)


class Exchanged(unittest.TestCase):
    other = Script("script\np = one 1 2\nq = road e 1 1\nr = p * q")

    def test_in_the_middle(self):
        self.assertEqual(lines(exchanged(ALL, "r", self.other)), [
            "x1 = one", "x2 = one 1 2", "x3 = one 1 2", "x4 = road e 1 1", "x5 = x3 * x4", "x6 = x2 * x5",
            "x7 = close 2 x6", "x8 = turn 1 3 x7", "x9 = add 1/2 x8 -3 x8 0 x8", "x10 = x9 * x2"])

    def test_every_use_gets_the_last_line(self):
        found = lines(exchanged(ALL, "q", self.other))
        self.assertEqual(found[1:6], ["x2 = one 1 2", "x3 = road e 1 1", "x4 = x2 * x3", "x5 = road k 2 1", "x6 = x4 * x5"])
        self.assertEqual(found[-1], "x10 = x9 * x4")
        added = Script("script\na = one 1 2\nb = one 1 2\nc = add 2 a 3 b 4 a\nd = turn 1 2 a\ne = close 1 a\nf = a * a")
        self.assertEqual(lines(exchanged(added, "a", Script("script\ny = one 1\nz = one 1 2"))), [
            "x1 = one 1", "x2 = one 1 2", "x3 = one 1 2", "x4 = add 2 x2 3 x3 4 x2", "x5 = turn 1 2 x2", "x6 = close 1 x2",
            "x7 = x2 * x2"])

    def test_the_first_and_the_last_line(self):
        script = Script("script\na = one 1\nb = one 1\nc = a * b")
        other = Script("script\nz = one 1 2\ny = close 2 z")
        self.assertEqual(lines(exchanged(script, "a", other)), ["x1 = one 1 2", "x2 = close 2 x1", "x3 = one 1", "x4 = x2 * x3"])
        last = exchanged(script, "c", other)
        self.assertEqual(lines(last), ["x1 = one 1", "x2 = one 1", "x3 = one 1 2", "x4 = close 2 x3"])
        self.assertEqual([last.gates, last.width], [(1,), 2])

    def test_a_line_that_nothing_uses(self):
        script = Script("script\na = one 1\nb = one 2\nc = close 1 a")
        found = exchanged(script, "b", Script("script\nz = road k 2 2"))
        self.assertEqual(lines(found), ["x1 = one 1", "x2 = road k 2 2", "x3 = close 1 x1"])

    def test_with_itself_and_like_names(self):
        script = Script("script\na = one 1\nb = road k 1 1\nc = a * b")
        self.assertEqual(lines(exchanged(script, "b", script)), [
            "x1 = one 1", "x2 = one 1", "x3 = road k 1 1", "x4 = x2 * x3", "x5 = x1 * x4"])
        odd = Script("script\nx3 = one 1\nx1 = one 1\nx2 = x3 * x1")
        self.assertEqual(lines(exchanged(odd, "x1", odd)), [
            "x1 = one 1", "x2 = one 1", "x3 = one 1", "x4 = x2 * x3", "x5 = x1 * x4"])

    def test_no_name_comes_first(self):
        for value in any_values() + ["k", "x1", ["a"], ("a",), {"a": "a"}, PAIR]:
            expect_very(self, NoName, value, exchanged, PAIR, value, Script("script\na = one 1"))
            expect_very(self, NoName, value, exchanged, PAIR, value, Script("script\na = one 3"))

    def test_other_gates(self):
        for gates in ("", " 2", " 1 2"):
            other = Script(f"script\nz = one{gates}")
            for name in "abc":
                expect_very(self, OtherGates, other, exchanged, PAIR, name, other)
        script = Script("script\na = one 1 2\nb = close 2 a")
        expect_very(self, OtherGates, script, exchanged, script, "a", script)
        self.assertEqual(len(exchanged(script, "b", script)), 3)


class OtherNames(unittest.TestCase):
    def named(self, names):
        words = dict(zip("pqrstuvw", names))
        return Script("\n".join([
            "script", *[" ".join(words.get(word, word) for word in line.split(" ")) for line in lines(ALL)]]))

    def test_read_back_from_the_text(self):
        for script in (ALL, PAIR, ALL * PAIR, -PAIR, PAIR + PAIR, ALL.closed(), ALL.turned(1, 4),
                       exchanged(ALL, "r", Exchanged.other)):
            again = Script(script.text)
            self.assertEqual((again, vars(again)), (script, vars(script)))

    def test_other_names_of_lines_change_nothing_else(self):
        for names in (["a", "b", "c", "d", "e", "f", "g", "h"], [f"x{9 - at}" for at in range(8)],
                      ["k", "road1", "one1", "add1", "close1", "turn1", "script1", "around1"]):
            other = self.named(names)
            self.assertEqual([line[0] for line in other.lines], names)
            self.assertEqual([line[1] for line in other.lines], [line[1] for line in ALL.lines])
            self.assertEqual([other.gates_of(name) for name in names], [ALL.gates_of(name) for name in "pqrstuvw"])
            self.assertEqual((other.gates, other.width, other.is_plain, len(other)),
                             (ALL.gates, ALL.width, ALL.is_plain, len(ALL)))
            self.assertEqual([other * PAIR, PAIR * other, other + other, other - other, -other],
                             [ALL * PAIR, PAIR * ALL, ALL + ALL, ALL - ALL, -ALL])
            self.assertEqual([other.closed(), other.turned(1, 4)], [ALL.closed(), ALL.turned(1, 4)])
            self.assertEqual(exchanged(other, names[2], Exchanged.other), exchanged(ALL, "r", Exchanged.other))
            self.assertEqual(exchanged(Script("script\na = one 1 2 3"), "a", other),
                             exchanged(Script("script\na = one 1 2 3"), "a", ALL))

    def test_other_names_of_kinds_change_nothing_else(self):
        other = Script(ALL.text.replace("road k", "road zzzz"))
        self.assertEqual([(line[0], line[1]) for line in other.lines], [(line[0], line[1]) for line in ALL.lines])
        self.assertEqual((-other).text.replace("zzzz", "k"), (-ALL).text)


if __name__ == "__main__":
    unittest.main()

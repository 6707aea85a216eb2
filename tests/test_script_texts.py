"""Section 5: which texts are scripts, the number that BadScript keeps, what lines are."""

import itertools
import unittest

from opengates.errors import BadScript
from opengates.scripts import Script
from tests.helpers import expect, not_strings

RESERVED = ["script", "around", "one", "road", "close", "turn", "add"]
GATES = ["1", "2", "3", "4"]
NO_GATES = ["0", "5", "10", "-1", "+1", "01", "1.", "", "a", "1/1", "12", "-0", "00", "one", "*"]
# Lines ahead, for forms that need operands: their names tell their gates.
AHEAD = ["n = one", "a = one 1", "b = one 2", "c = one 3", "ab = one 1 2", "bc = one 2 3", "bd = one 2 4",
         "all = one 1 2 3 4"]
ODD_INTEGERS = ["", "-", "+", "-0", "+0", "00", "01", "+1", "--1", "-01", "1-", "1.", "1.0", "1e0", "1_0", "0x1",
                "a", "1a", "*", "n", "(1)", "1,", "1//2", "/", "1/", "/2", "1/2/3"]
ODD_FRACTIONS = ["1/1", "0/1", "0/2", "2/2", "2/4", "-2/4", "6/9", "4/2", "1/0", "0/0", "1/-2", "-1/-2", "01/2",
                 "1/02", "+1/2", "1/+2", "-0/3", "1/2.", "a/2", "1/a", "1 / 2", "1/ 2", "1 /2", "7/-1", "-7/1"]


def script(*lines):
    return "\n".join(["script", *lines])


class Texts(unittest.TestCase):
    def taken(self, text):
        found = Script(text)
        self.assertEqual(found.text, text)
        return found

    def bad(self, number, text):
        expect(self, BadScript, number, Script, text)

    def form(self, form):
        """What a form behind the lines AHEAD is, with the gates of its line."""
        found = self.taken(script(*AHEAD, f"x = {form}"))
        self.assertEqual(found.gates, found.gates_of("x"))
        self.assertEqual(found.lines[-1][0], "x")
        return found.lines[-1][1], found.lines[-1][2], found.gates

    def no_form(self, form):
        self.bad(len(AHEAD) + 2, script(*AHEAD, f"x = {form}"))
        self.bad(len(AHEAD) + 2, script(*AHEAD, f"x = {form}", "y = one"))
        self.bad(len(AHEAD) + 2, script(*AHEAD, f"x = {form}", "y = "))


class WholeTexts(Texts):
    def test_no_string(self):
        for value in not_strings():
            expect(self, BadScript, 0, Script, value)

    def test_first_line(self):
        for first in ("", " ", "Script", "script ", " script", "scripts", "script 1", "book 0", "around h 1", "a = one"):
            self.bad(1, first)
            self.bad(1, first + "\na = one")
            self.bad(1, first + "\nwrong")
        self.bad(1, "\nscript\na = one")

    def test_only_the_first_line(self):
        self.bad(2, "script")

    def test_a_line_feed_at_the_end(self):
        self.bad(1, "\n")
        self.bad(2, "script\n")
        self.bad(3, script("a = one") + "\n")
        self.bad(3, script("a = one") + "\n\n")
        self.bad(3, script("a = one", "", "b = one"))

    def test_the_first_wrong_line_is_told(self):
        self.bad(2, script("a", "b"))
        self.bad(3, script("a = one", "b", "a = one"))
        self.bad(4, script("a = one", "b = a * a", "c = close 1 b", "d ="))
        self.bad(2, script("script", "a = one"))

    def test_blanks_and_signs(self):
        for line in (" a = one 1", "a = one 1 ", "a  = one 1", "a =  one 1", "a = one  1", "a=one 1", "a= one 1",
                     "a =one 1", "a : one 1", "a == one 1", "= one 1", "a one 1", "a =", "a = ", "a", " ", "a = = one 1",
                     "one 1", "a b = one 1", "a = One 1", "a = ONE", "# a = one", "a = one 1;", "a = 1", "a = a"):
            self.bad(2, script(line))
            self.bad(3, script("z = one", line))


class Names(Texts):
    def test_names_that_are_taken(self):
        for letters in ("a", "z", "abc", "abcdef", "zzzzzz"):
            for figures in ("", "0", "9", "00", "007", "123456789", "000000000", "999999999"):
                name = letters + figures
                found = self.taken(script(f"{name} = one 1", f"y = {name} * {name}"))
                self.assertEqual(found.lines[0], (name, "one", (1,)))
                self.assertEqual(found.lines[1][2], (name, name))

    def test_names_that_are_none(self):
        for name in ("", "abcdefg", "abcdefg1", "a0123456789", "abcdef1234567890", "1", "1a", "a1b", "A", "aB", "a_1",
                     "_a", "a-1", "a.1", "a'", "*", "=", "-1", "`", "{", "@", "[", "/", ":", "a" * 19000, "1" * 19000,
                     "a" + "1" * 19000):
            self.bad(2, script(f"{name} = one 1"))
            self.bad(3, script("a = one 1", f"{name} = one 1"))
            self.bad(3, script("a = one 1", f"b = a * {name}"))

    def test_words_that_are_no_names(self):
        for word in RESERVED:
            self.bad(2, script(f"{word} = one 1"))
            self.bad(3, script("a = one 1", f"{word} = a * a"))
            self.taken(script(f"{word}1 = one 1"))
            self.taken(script(f"{word[:-1]} = one 1"))
        for word in ("book", "mark", "kind", "yard", "line", "drop", "undo", "on", "adds", "turns", "road7", "x"):
            self.taken(script(f"{word} = one 1"))
        self.bad(2, script("scripts = one 1"))

    def test_no_line_has_the_name_of_one_ahead(self):
        self.bad(3, script("a = one 1", "a = one 1"))
        self.bad(4, script("a = one 1", "b = one 1", "a = one 2"))
        self.bad(3, script("a = one 1", "a = close 1 a"))
        self.taken(script("a1 = one 1", "a01 = one 1", "a = one 1"))

    def test_operands_are_names_of_lines_ahead(self):
        for form in ("x * x", "x * a", "a * x", "later * a", "a * later", "q * a", "a * q", "close 1 x", "close 1 later",
                     "turn 1 2 x", "turn 1 2 later", "add 1 x", "add 1 a 1 x", "add 1 x 1 a", "add 1 later",
                     "add 1 q 1 a", "add 1 a 1 q", "add 1 a 1 q 1 a"):
            self.bad(10, script(*AHEAD, f"x = {form}", "later = one 1"))

    def test_names_of_kinds_are_no_operands(self):
        self.bad(3, script("a = road k 1 2", "b = a * k"))
        self.assertFalse("k" in Script("script\na = road k 1 2"))


class Forms(Texts):
    def test_one(self):
        for many in range(5):
            for gates in itertools.combinations((1, 2, 3, 4), many):
                words = " ".join(["one", *map(str, gates)])
                self.assertEqual(self.form(words), ("one", gates, gates))

    def test_one_with_gates_that_do_not_ascend(self):
        for many in (2, 3, 4, 5):
            for gates in itertools.product((1, 2, 3, 4), repeat=many):
                if list(gates) != sorted(set(gates)):
                    self.no_form(" ".join(["one", *map(str, gates)]))

    def test_one_with_words_that_are_no_gates(self):
        for word in NO_GATES:
            self.no_form(f"one {word}")
            self.no_form(f"one 1 {word}")
            self.no_form(f"one {word} 4")
        self.no_form("one a")
        self.no_form("one 1 2 3 4 5")

    def test_road(self):
        for start, end in itertools.product((1, 2, 3, 4), repeat=2):
            gates = tuple(sorted({start, end}))
            self.assertEqual(self.form(f"road k {start} {end}"), ("road", ("k", start, end), gates))

    def test_kinds_of_roads(self):
        for kind in ("a", "z", "ab", "abc", "abcd", "zzzz", "one", "road", "add", "turn", "x", "n"):
            self.assertEqual(self.form(f"road {kind} 2 1"), ("road", (kind, 2, 1), (1, 2)))
        for kind in ("", "abcde", "close", "A", "aB", "k1", "1", "*", "a-", "`", "{", "_"):
            self.no_form(f"road {kind} 2 1")

    def test_road_with_other_gates(self):
        for word in NO_GATES:
            self.no_form(f"road k {word} 1")
            self.no_form(f"road k 1 {word}")
        for form in ("road", "road k", "road k 1", "road k 1 2 3", "road 1 2", "road 1 2 k", "road k 1 2 ", "road k  1 2"):
            self.no_form(form)

    def test_product(self):
        gates = {"n": (), "a": (1,), "b": (2,), "ab": (1, 2), "bc": (2, 3), "bd": (2, 4), "all": (1, 2, 3, 4)}
        for one, other in itertools.product(gates, gates):
            both = tuple(sorted(set(gates[one] + gates[other])))
            self.assertEqual(self.form(f"{one} * {other}"), ("*", (one, other), both))

    def test_products_that_are_none(self):
        for form in ("a *", "* a", "a b", "a * b * c", "a  * b", "a *  b", "a*b", "a* b", "a *b", "a + b", "a x b",
                     "a ** b", "a", "* * *", "a * ", " a * b", "a * 1", "1 * a", "one * a", "a * one", "road * a"):
            self.no_form(form)

    def test_close(self):
        gates = {"n": (), "a": (1,), "ab": (1, 2), "bd": (2, 4), "all": (1, 2, 3, 4)}
        for name, gate in itertools.product(gates, (1, 2, 3, 4)):
            if gate in gates[name]:
                left = tuple(one for one in gates[name] if one != gate)
                self.assertEqual(self.form(f"close {gate} {name}"), ("close", (gate, name), left))
            else:
                self.no_form(f"close {gate} {name}")

    def test_closes_that_are_none(self):
        for word in NO_GATES:
            self.no_form(f"close {word} all")
        for form in ("close", "close 1", "close a", "close a 1", "close 1 a a", "close 1 2 ab", "close  1 a", "close 1  a",
                     "close 1 a ", "close 1 one", "close 1 q"):
            self.no_form(form)

    def test_turn(self):
        gates = {"n": (), "a": (1,), "b": (2,), "ab": (1, 2), "bd": (2, 4), "all": (1, 2, 3, 4)}
        for name, one, other in itertools.product(gates, (1, 2, 3, 4), (1, 2, 3, 4)):
            form = f"turn {one} {other} {name}"
            if one != other and (one in gates[name] or other in gates[name]):
                to = {one: other, other: one}
                turned = tuple(sorted(to.get(gate, gate) for gate in gates[name]))
                self.assertEqual(self.form(form), ("turn", (one, other, name), turned))
            else:
                self.no_form(form)

    def test_turns_that_are_none(self):
        for word in NO_GATES:
            self.no_form(f"turn {word} 1 all")
            self.no_form(f"turn 1 {word} all")
        for form in ("turn", "turn 1", "turn 1 2", "turn a", "turn 1 a", "turn a 1 2", "turn 1 a 2", "turn 1 2 a b",
                     "turn 1 2 3 all", "turn  1 2 a", "turn 1 2 a ", "turn 1 2 q"):
            self.no_form(form)


class Adding(Texts):
    def test_one_or_more(self):
        for many in (1, 2, 3, 50, 1000):
            form = " ".join(["add"] + ["2 ab"] * many)
            self.assertEqual(self.form(form), ("add", (((2, 1), "ab"),) * many, (1, 2)))

    def test_all_have_the_same_gates(self):
        lines = AHEAD + ["ba = turn 1 2 ab", "a2 = close 2 ab", "n2 = close 1 a"]
        found = self.taken(script(*lines, "x = add 1 a -1 a2", "y = add 1 n 2 n2", "z = add 1 ab 5 ba"))
        self.assertEqual([found.gates_of(name) for name in "xyz"], [(1,), (), (1, 2)])
        for one, other in itertools.permutations(["n", "a", "b", "ab", "bc", "bd", "all"], 2):
            self.no_form(f"add 1 {one} 1 {other}")
            self.no_form(f"add 1 {one} 1 {one} 1 {other}")

    def test_factors_that_are_integers(self):
        for factor in (0, 1, -1, 2, 10, -10, 10 ** 12 + 1, 10 ** 999, -10 ** 999, 10 ** 1000 - 1, 1 - 10 ** 1000):
            self.assertEqual(self.form(f"add {factor} a")[1], (((factor, 1), "a"),))

    def test_factors_that_are_fractions(self):
        long = 10 ** 1000 - 1
        for top, bottom in ((1, 2), (-1, 2), (3, 2), (-3, 10), (1, 10 ** 999), (-7, long - 1), (long, long - 1), (long, 2),
                            (-long, long - 1), (5, 97), (10, 3)):
            self.assertEqual(self.form(f"add {top}/{bottom} a")[1], (((top, bottom), "a"),))

    def test_factors_of_1001_figures(self):
        long = 10 ** 1000
        for word in (f"{long}", f"-{long}", f"{long}/3", f"-{long}/3", f"1/{long}", f"{long}/{long + 1}",
                     f"{long + 1}/{long}", "9" * 19000, "-" + "9" * 19000, "1/" + "9" * 19000, "9" * 9000 + "/" + "7" * 9000):
            self.no_form(f"add {word} a")
            self.no_form(f"add 1 a {word} a")

    def test_factors_that_are_none(self):
        for word in ODD_INTEGERS + ODD_FRACTIONS:
            self.no_form(f"add {word} a")
            self.no_form(f"add 1 a {word} a")

    def test_other_words(self):
        for form in ("add", "add 1", "add a", "add a 1", "add 1 a 1", "add 1 a a", "add a a", "add 1 1 a", "add 1 a 2 ",
                     "add 1 a  2 a", "add  1 a", "add 1  a", "add 1 a ", "add 1 a + 1 a", "add 1 * a", "add 1 q"):
            self.no_form(form)


class WhatScriptsTell(Texts):
    def test_width(self):
        for many in range(5):
            gates = "".join(f" {gate}" for gate in range(1, many + 1))
            self.assertEqual(self.taken(script(f"a = one{gates}")).width, many)
        self.assertEqual(self.taken(script("a = road k 1 2", "b = close 1 a", "c = close 2 b")).width, 2)
        self.assertEqual(self.taken(script("a = one 1 2", "b = one 3", "c = a * b", "d = one")).width, 3)
        self.assertEqual(self.taken(script("a = one 4")).width, 1)
        self.assertEqual(self.taken(script("a = one 4", "b = one 3 4", "c = one")).width, 2)

    def test_gates_are_those_of_the_last_line(self):
        found = self.taken(script("a = one 1 2 3", "b = one 4", "c = turn 3 4 b"))
        self.assertEqual([found.gates, found.gates_of("a"), found.gates_of("b")], [(3,), (1, 2, 3), (4,)])
        self.assertIs(type(found.gates), tuple)

    def test_plain_without_a_line_that_adds(self):
        self.assertIs(self.taken(script("a = road add 1 2", "b = close 1 a", "c = turn 1 2 b", "d = c * a")).is_plain, True)
        self.assertIs(self.taken(script("a = one 1", "b = add 1 a")).is_plain, False)
        self.assertIs(self.taken(script("a = one 1", "b = add 1 a", "c = one")).is_plain, False)

    def test_lines(self):
        found = self.taken(script("a = one", "b = one 2 4", "c = road k 3 1", "d = b * c", "e = close 3 d",
                                  "f = turn 4 3 e", "g = add 0 f -1/2 f 7 f", "h = road k 2 2"))
        self.assertEqual(found.lines, (
            ("a", "one", ()), ("b", "one", (2, 4)), ("c", "road", ("k", 3, 1)), ("d", "*", ("b", "c")),
            ("e", "close", (3, "d")), ("f", "turn", (4, 3, "e")),
            ("g", "add", (((0, 1), "f"), ((-1, 2), "f"), ((7, 1), "f"))), ("h", "road", ("k", 2, 2))))
        for line in found.lines:
            self.assertEqual([type(part) for part in line], [str, str, tuple])


if __name__ == "__main__":
    unittest.main()

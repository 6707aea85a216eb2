"""Section 8: which texts are arounds, the number that BadAround keeps, what arounds tell."""

import random
import unittest

from opengates.arounds import Around
from opengates.books import Book
from opengates.errors import BadAround
from opengates.scripts import Script
from tests.drawing import draw_around
from tests.helpers import any_values, expect, not_strings
from tests.readers import around_fault
from tests.test_readers import spoiled

# Behind a hole h with the gates 1 and 2: lines that hang (g ..) and lines that do not.
AHEAD = ["n = one", "a = one 1", "r = road k 1 2", "s = road k 2 3", "g = turn 1 2 h", "g1 = close 2 h"]
END = ["e1 = close 1 h", "e2 = close 2 e1"]


def around(*lines, head="around h 1 2"):
    return "\n".join([head, *lines])


class Texts(unittest.TestCase):
    def bad(self, number, text):
        expect(self, BadAround, number, Around, text)
        self.assertEqual(around_fault(text), number)

    def taken(self, text):
        found = Around(text)
        self.assertEqual(found.text, text)
        self.assertIsNone(around_fault(text))
        return found


class WholeTexts(Texts):
    def test_no_string(self):
        for value in not_strings():
            expect(self, BadAround, 0, Around, value)

    def test_first_line(self):
        for head in ("", " ", "around", "around ", "around h ", " around h", "around  h", "Around h", "around h 0", "around h 5",
                     "around h 2 1", "around h 1 1", "around h 1  2", "around h 1,2", "around 1", "around 1 h", "around H",
                     "around one", "around around", "around script", "around add 1", "around road", "around close", "around turn",
                     "around abcdefg", "around h1234567890", "around h_", "around a1b", "around h 01", "around h 1 2 3 4 5",
                     "around h = one", "script", "script h", "h", "h = one 1", "around h h", "around h -1", "around h 1.", "yard"):
            self.bad(1, head)
            self.bad(1, around(*END, head=head))
            self.bad(1, head + "\nwrong")
        self.bad(1, "\naround h 1 2\n" + "\n".join(END))

    def test_holes(self):
        for hole in ("h", "a", "zzzzzz", "abcdef123456789", "x1", "x000000000", "around1", "one1", "ones", "hole", "k", "book"):
            for gates in ("", " 1", " 4", " 1 3", " 2 3 4", " 1 2 3 4"):
                numbers = tuple(int(gate) for gate in gates.split())
                lines = []
                last = hole
                for at, gate in enumerate(numbers):
                    lines.append(f"q{at} = close {gate} {last}")
                    last = f"q{at}"
                lines.append(f"z = add -1/2 {last}")
                found = self.taken(around(*lines, head=f"around {hole}{gates}"))
                self.assertEqual((found.hole, found.gates, found.width), (hole, numbers, len(numbers)))
                self.assertEqual(len(found.lines), len(numbers) + 1)

    def test_only_the_first_line(self):
        for gates in ("", " 1", " 1 2 3 4"):
            self.bad(2, f"around h{gates}")

    def test_line_feeds(self):
        self.bad(1, "\n")
        self.bad(2, "around h\n")
        self.bad(2, "around h\n\n")
        self.bad(4, around(*END) + "\n")
        self.bad(4, around(*END) + "\n\n")
        self.bad(3, around("a = one", "", "z = add 1 h", head="around h"))

    def test_the_first_wrong_line_is_told(self):
        self.bad(2, around("a", "b"))
        self.bad(3, around("a = one", "b", *END))
        self.bad(4, around("a = one", "b = h * a", "c = h * b", "d = wrong"))
        self.bad(2, around("script", *END))
        self.bad(2, around("around h 1 2", *END))
        # A line that cannot stand comes ahead of a last line that has gates or does not hang.
        self.bad(2, around("a = one 5", "b = one 1"))


class Lines(Texts):
    def line(self, form):
        """The line of this form, among others."""
        found = self.taken(around(*AHEAD, f"x = {form}", *END))
        return found.lines[len(AHEAD)]

    def no_line(self, form, name="x"):
        self.bad(len(AHEAD) + 2, around(*AHEAD, f"{name} = {form}", *END))
        self.bad(len(AHEAD) + 2, around(*AHEAD, f"{name} = {form}", "wrong"))
        self.bad(len(AHEAD) + 2, around(*AHEAD, f"{name} = {form}"))

    def test_all_forms_that_do_not_hang(self):
        for form in ("one", "one 1 4", "road kind 3 1", "a * r", "a * a", "close 1 a", "turn 1 2 r", "add 1/2 a -3 a", "n * n"):
            self.assertEqual(self.line(form)[0], "x")
        for form in ("one 2 1", "road k 1", "a * q", "close 2 a", "turn 2 3 a", "add 2/4 a", "add 1 a 1 r", "a + r", "x * a"):
            self.no_line(form)

    def test_all_forms_that_hang(self):
        self.assertEqual(self.line("close 1 h"), ("x", "close", (1, "h")))
        self.assertEqual(self.line("turn 3 1 h"), ("x", "turn", (3, 1, "h")))
        self.assertEqual(self.line("h * r"), ("x", "*", ("h", "r")))
        self.assertEqual(self.line("r * g"), ("x", "*", ("r", "g")))
        self.assertEqual(self.line("add 1/2 h 0 g -3 h"), ("x", "add", (((1, 2), "h"), ((0, 1), "g"), ((-3, 1), "h"))))
        for form in ("close 3 h", "turn 3 4 h", "turn 1 1 h", "h * q", "add 1 h 1 g1", "add 2/4 h"):
            self.no_line(form)

    def test_of_a_product_at_most_one_operand_hangs(self):
        for form in ("h * h", "h * g", "g * h", "g * g1", "g1 * h"):
            self.no_line(form)
        for form in ("h * n", "n * h", "g1 * a", "a * g1", "s * h", "a * r"):
            self.line(form)

    def test_of_a_sum_all_operands_hang_or_none(self):
        for form in ("add 1 h 1 r", "add 1 r 1 h", "add 0 r 1 g", "add 1 h 0 r", "add 1 h 1 g 1 r", "add 1 r 1 g 1 h", "add 1 a 1 g1"):
            self.no_line(form)
        for form in ("add 1 h 1 g", "add 0 h", "add 1 r 1 r", "add 1 g1 2 g1", "add 1 g 1 h 1 g"):
            self.line(form)

    def test_a_line_hangs_if_it_has_an_operand_that_does(self):
        # Through any lines, and also with the factor nought.
        lines = ["b = add 1 h", "c = turn 1 2 b", "d = add 0 c", "e = close 1 d", "f = close 2 e"]
        self.taken(around(*lines))
        for name in ("b", "c", "d"):
            self.bad(7, around(*lines, f"x = {name} * h"))
            self.bad(8, around(*lines, "y = one 1 2", f"x = add 1 {name} 1 y"))
        self.bad(7, around(*lines, "x = e * f"))
        self.bad(7, around(*lines, "x = f * f"))
        self.bad(8, around(*lines, "y = one", "x = add 1 f 1 y"))

    def test_no_line_has_the_name_of_the_hole_or_of_one_ahead(self):
        for form in ("one", "close 1 h", "turn 1 2 h", "add 1 a"):
            self.no_line(form, "h")
            self.no_line(form, "a")
            self.no_line(form, "g1")
        for name in ("one", "around", "script", "road", "close", "turn", "add", "H", "h_", "abcdefg", ""):
            self.no_line("one", name)

    def test_lines_that_nothing_uses_may_stand_anywhere_else(self):
        self.taken(around("a = one 1", "b = close 1 h", "c = road q 3 4", "d = close 2 h", "e = close 2 b"))
        self.taken(around("b = close 1 h", "e = close 2 b", "z = one", "y = e * z"))


class LastLines(Texts):
    def test_the_last_line_hangs_and_has_no_gates(self):
        self.bad(2, around("a = one"))
        self.bad(2, around("a = close 1 h"))
        self.bad(4, around(*END, "x = one"))
        self.bad(4, around(*END, "x = one 1"))
        self.bad(5, around("n = one", *END, "x = n * n"))
        self.bad(2, around("x = turn 1 2 h"))
        self.bad(3, around("a = close 1 h", "b = close 2 h"))
        self.bad(2, around("a = one", head="around h"))
        self.bad(3, around("a = add 1 h", "b = one", head="around h"))
        self.taken(around("a = add 1 h", "b = one", "c = a * b", head="around h"))
        self.taken(around("a = add 0 h", head="around h"))


class WhatArounds(Texts):
    text = around("b = road k 3 4", "p = h * b", "q = close 4 p", "c = close 3 q", "d = close 2 c", "f = add 1/2 d -3 d", "z = close 1 f")

    def test_properties(self):
        found = Around(self.text)
        self.assertEqual([found.text, found.hole, found.gates, found.width], [self.text, "h", (1, 2), 4])
        self.assertEqual(found.lines, (
            ("b", "road", ("k", 3, 4)), ("p", "*", ("h", "b")), ("q", "close", (4, "p")), ("c", "close", (3, "q")),
            ("d", "close", (2, "c")), ("f", "add", (((1, 2), "d"), ((-3, 1), "d"))), ("z", "close", (1, "f"))))
        self.assertLessEqual({"text", "hole", "gates", "width", "lines"}, set(vars(found)))

    def test_width_is_of_the_hole_and_of_all_lines(self):
        self.assertEqual(Around(around("a = add 1 h", head="around h")).width, 0)
        self.assertEqual(Around(around(*END)).width, 2)
        self.assertEqual(Around(around("n = one 2 3 4", *END)).width, 3)
        self.assertEqual(Around(around("a = add 1 h", "b = one 1", "c = close 1 b", "d = a * c", head="around h")).width, 1)
        four = ["a = close 1 h", "b = close 2 a", "c = close 3 b", "d = close 4 c"]
        self.assertEqual(Around(around(*four, head="around h 1 2 3 4")).width, 4)

    def test_lines_are_told_as_a_script_tells_them(self):
        chance = random.Random(50)
        for _ in range(100):
            found = draw_around(chance, (1, 3))
            rows = found.text.split("\n")
            self.assertEqual(found.lines, Script("\n".join(["script", f"{found.hole} = one 1 3", *rows[1:]])).lines[1:])

    def test_equal_if_the_texts_are(self):
        found = Around(self.text)
        again = Around(self.text)
        self.assertTrue(found == again and not found != again)
        self.assertEqual(vars(again), vars(found))
        others = [Around(self.text.replace("z", "y")), Around(self.text.replace("1/2", "1/3")), self.text, (found,), [found],
                  found.lines, Book("book 0\nmark a 1\nkind k 1"), Script("script\na = one")]
        for value in others + any_values():
            self.assertIs(found == value, False)
            self.assertIs(value == found, False)
            self.assertIs(found != value, True)


class SecondReader(Texts):
    def test_drawn_and_spoiled(self):
        chance = random.Random(51)
        words = ["around", "=", "one", "road", "close", "turn", "add", "*", "0", "1", "2", "3", "4", "-1", "1/2", "h", "x1", "x2",
                 "a0", "a1", "k", "", "script"]
        right = 0
        for _ in range(8000):
            gates = sorted(chance.sample([1, 2, 3, 4], chance.randint(0, 3)))
            text = spoiled(draw_around(chance, gates, lines=chance.randint(1, 7)).text, chance, " \n-*=/01234ahxk", words)
            try:
                self.assertEqual(Around(text).text, text)
                found = None
            except BadAround as raised:
                found = raised.value
            self.assertEqual(found, around_fault(text), text)
            right += found is None
        self.assertTrue(1000 < right < 7000, right)


if __name__ == "__main__":
    unittest.main()

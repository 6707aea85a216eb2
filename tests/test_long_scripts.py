"""Scripts of 400 lines, each one hanging on the one ahead, and what was told handed in again."""

import unittest

from opengates.scripts import exchanged, Script

MANY = 400
FORMS = ("close 2 {0}", "{0} * r", "turn 1 2 {0}", "turn 2 1 {0}", "add 1/2 {0} -3 {0}")


def chain(many):
    """A script of so many lines with the gates (1,) or (1, 2), each line hanging on the one ahead."""
    rows = ["script", "r = road k 1 2"]
    ahead = "r"
    for at in range(1, many):
        rows.append(f"a{at} = " + FORMS[(at - 1) % len(FORMS)].format(ahead))
        ahead = f"a{at}"
    return Script("\n".join(rows))


class LongScripts(unittest.TestCase):
    def setUp(self):
        self.script = chain(MANY)
        self.assertEqual((len(self.script), self.script.gates, self.script.width), (MANY, (1, 2), 2))

    def assert_hangs(self, script, first, many):
        """Lines from first on, so many, each hang on the one ahead."""
        for at in range(first, first + many - 1):
            operands = script.text.split("\n")[at + 1].split(" ")[2:]
            self.assertIn(f"x{at}", operands)

    def test_made(self):
        self.assertEqual([self.script.gates_of("r"), self.script.gates_of("a1")], [(1, 2), (1,)])
        self.assertEqual([name for name, _, _ in self.script.lines], ["r"] + [f"a{at}" for at in range(1, MANY)])
        self.assertEqual(Script(self.script.text), self.script)

    def test_multiplied(self):
        both = self.script * self.script
        self.assertEqual((len(both), both.gates), (2 * MANY + 1, (1, 2)))
        self.assertEqual(both.lines[-1], ("x801", "*", ("x400", "x800")))
        self.assert_hangs(both, 1, MANY)
        self.assert_hangs(both, MANY + 1, MANY)

    def test_added(self):
        for found, factor in ((self.script + self.script, 1), (self.script - self.script, -1)):
            self.assertEqual((len(found), found.gates), (2 * MANY + 1, (1, 2)))
            self.assertEqual(found.lines[-1], ("x801", "add", (((1, 1), "x400"), ((factor, 1), "x800"))))
            self.assert_hangs(found, MANY + 1, MANY)
        self.assertEqual((-self.script).lines[-1], ("x401", "add", (((-1, 1), "x400"),)))

    def test_closed(self):
        found = self.script.closed()
        self.assertEqual((len(found), found.gates), (MANY + 2, ()))
        self.assertEqual(found.lines[-2:], (("x401", "close", (1, "x400")), ("x402", "close", (2, "x401"))))
        self.assert_hangs(found, 1, MANY + 2)

    def test_turned(self):
        found = self.script.turned(2, 3)
        self.assertEqual((len(found), found.gates), (MANY + 1, (1, 3)))
        self.assertEqual(found.lines[-1], ("x401", "turn", (2, 3, "x400")))

    def test_exchanged(self):
        for name, ahead in (("r", 0), ("a5", 5), ("a399", 399)):
            found = exchanged(self.script, name, self.script)
            self.assertEqual((len(found), found.gates), (2 * MANY - 1, (1, 2)))
            self.assert_hangs(found, ahead + 1, 2 * MANY - 1 - ahead)

    def test_what_was_told_may_be_handed_in_again(self):
        found = self.script
        many = MANY
        for _ in range(4):
            found = exchanged(Script((found * found).text), "x400", self.script.turned(1, 2))
            # Doubled, one line more; the exchanged line went, 401 came.
            many = 2 * many + 1 - 1 + MANY + 1
            self.assertEqual((len(found), found.gates, found.width), (many, (1, 2), 2))


if __name__ == "__main__":
    unittest.main()

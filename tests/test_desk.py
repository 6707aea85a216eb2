"""Section 16: a desk."""

import random
import unittest

from opengates.desk import Desk
from opengates.errors import BadFactor, BadJournal, BadLine, BadRow, Later, NoKind, NoName, NothingToRedo, NothingToUndo, OtherGates, Wanted
from opengates.journals import journal, read_journal
from opengates.yard import Yard
from tests import catalog
from tests.helpers import any_values, expect, expect_very, not_strings
from tests.test_journals import drawn_yard
from tests.test_yard import BOOK, seen, whole
from tests.yards import closed_again, draw_deed, Refused

HEAD = BOOK.text + "\nyard"
SOME = HEAD + "\nline r = road e 1 2\nline p = close 2 r\nline n = one\nline h = add -1/4 p"


def written(worth):
    return f"{worth[0]}" if worth[1] == 1 else f"{worth[0]}/{worth[1]}"


class Answers(unittest.TestCase):
    def test_a_new_desk(self):
        desk = Desk(text=HEAD)
        self.assertEqual([desk.say(line="names"), desk.yard, type(desk.yard)], ["none", Yard(BOOK), Yard])
        expect(self, NothingToUndo, None, desk.say, "undo")
        expect(self, NothingToRedo, None, desk.say, "redo")

    def test_what_is_asked(self):
        desk = Desk(SOME)
        for line, answer in (("names", "r p n h"), ("gates r", "1 2"), ("gates p", "1"), ("gates n", "none"), ("worth r a b", "1"), ("worth r b b", "0"),
                             ("worth n", "1"), ("worth h a", "-1/2"), ("worth h b", "-1/4"), ("closed r", "4"), ("closed n", "1"), ("closed h", "-1"),
                             ("tell n", "n = one"), ("tell h", "r = road e 1 2; p = close 2 r; h = add -1/4 p")):
            before = whole(desk.yard)
            self.assertEqual(desk.say(line), answer)
            self.assertEqual(whole(desk.yard), before)

    def test_deeds(self):
        desk = Desk(SOME)
        yard = desk.yard
        for line, names in (("line q = p * p", ("r", "p", "n", "h", "q")), ("exchange q = one 1", ("r", "p", "n", "h", "q")), ("drop q", ("r", "p", "n", "h")),
                            ("undo", ("r", "p", "n", "h", "q")), ("undo", ("r", "p", "n", "h", "q")), ("redo", ("r", "p", "n", "h", "q")),
                            ("drop h", ("r", "p", "n", "q"))):
            self.assertEqual(desk.say(line), "ok")
            self.assertIs(desk.yard, yard)
            self.assertEqual(yard.names, names)
        self.assertEqual(desk.say("worth q b"), "1")
        self.assertEqual(journal(yard).split("\n")[9:], ["line q = p * p", "exchange q = one 1", "drop h"])

    def test_the_yard_may_be_changed_beside_it(self):
        desk = Desk(SOME)
        desk.yard.line("q = one 3")
        self.assertEqual(desk.say("gates q"), "3")
        with desk.yard.trial():
            self.assertEqual(desk.say("drop q"), "ok")
            self.assertEqual(desk.say("names"), "r p n h")
        self.assertEqual(desk.say("names"), "r p n h q")

    def test_by_a_prime(self):
        desk = Desk(catalog.BY_FIVE.text + "\nyard\nline r = road k 1 2\nline p = close 2 r\nline h = add 1/2 p")
        self.assertEqual([desk.say(line) for line in ("worth r a b", "worth p a", "worth h a", "closed p")], ["4", "1", "3", str((1 * 1 + 2 * 0 + 3 * 4) % 5)])

    def test_a_name_none(self):
        desk = Desk(HEAD + "\nline none = one")
        self.assertEqual([desk.say("names"), desk.say("gates none"), desk.say("tell none")], ["none", "none", "none = one"])


class Refusals(unittest.TestCase):
    lines = ["", " ", "  ", "names ", " names", "Names", "names x", "name", "undo undo", "redo x", "gates", "gates r p", "worth", "closed", "closed r p", "tell",
             "tell r p", "line", "exchange", "exchange p", "exchange p =", "exchange p = ", "exchange p one 1", "exchange p = one  1", "exchange p q = one 1",
             "drop", "drop r p", "gates  r", "gates r ", " gates r", "worth  n", "line  q = one", "line q = one ", "names\n", "names\nundo", "\nnames", "say names",
             "journal", "text", "keep", "trial", "done", "copy", "line q = one\n", "drop r\n", "exchange  p = one 1", "line\nq = one", "none", "ok", "yard", "swap p = one 1", "Exchange p = one 1", "q = one", "p = one 1", "Line q = one", "Drop h", "worths p a"]

    def test_lines_of_none_of_these_forms(self):
        desk = Desk(SOME)
        before = whole(desk.yard)
        for line in self.lines + any_values():
            expect_very(self, BadLine, line, desk.say, line)
        self.assertEqual(whole(desk.yard), before)

    def test_what_the_yard_raises(self):
        desk = Desk(SOME)
        before = whole(desk.yard)
        for line, error, value in (("line q", BadLine, "q"), ("line q = one 2 1", BadLine, "q = one 2 1"), ("line r = one", BadLine, "r = one"),
                                   ("line q = road f 1 2", NoKind, "f"), ("exchange zz = one", NoName, "zz"), ("exchange p = zz", BadLine, "zz"),
                                   ("exchange p = p * p", Later, "p"), ("exchange p = h * p", Later, "h"), ("exchange p = one", OtherGates, ()),
                                   ("exchange p = road f 1 1", NoKind, "f"), ("exchange = = one", NoName, "="), ("exchange p = = one", BadLine, "= one"),
                                   ("drop zz", NoName, "zz"), ("drop r", Wanted, "p"), ("gates zz", NoName, "zz"), ("worth zz", NoName, "zz"),
                                   ("worth zz a z", NoName, "zz"), ("closed zz", NoName, "zz"), ("tell Z", NoName, "Z"), ("redo", NothingToRedo, None),
                                   ("line line q = one", BadLine, "line q = one"), ("exchange exchange = one", NoName, "exchange")):
            expect(self, error, value, desk.say, line)
        self.assertEqual(whole(desk.yard), before)
        prime = Desk(catalog.BY_TWO.text + "\nyard\nline a = one 1")
        expect(self, BadFactor, (3, 4), prime.say, "line b = add 3/4 a 1/2 a")
        prime.say("line b = one 1")
        expect(self, BadFactor, (1, 2), prime.say, "exchange b = add 1 a 1/2 a")

    def test_rows(self):
        desk = Desk(SOME)
        for line, row in (("worth r", ()), ("worth r a", ("a",)), ("worth r a b a", ("a", "b", "a")), ("worth r a c", ("a", "c")), ("worth n a", ("a",)),
                          ("worth p r", ("r",)), ("worth p A", ("A",)), ("worth p 1", ("1",)), ("worth p none", ("none",))):
            expect(self, BadRow, row, desk.say, line)

    def test_journals_that_are_none(self):
        for value in not_strings():
            expect(self, BadJournal, 0, Desk, value)
        for text, number in (("", 2), ("yard", 1), (BOOK.text, 5), (HEAD + "\nnames", 6), (SOME + "\nundo", 10), (SOME + "\ndrop r", 10), (HEAD + "\n", 6)):
            expect(self, BadJournal, number, Desk, text)


class Drawn(unittest.TestCase):
    def test_its_yard_after_each_line(self):
        many = {"ok": 0, "refused": 0}
        for at in range(40):
            chance = random.Random(2000 + at)
            yard, model = drawn_yard(chance, 4)
            # A desk has no deeds that could be done again at first.
            model.undone = []
            desk = Desk(journal(yard))
            for _ in range(25):
                name, arguments = draw_deed(chance, model)
                if not all(type(part) is str for part in arguments):
                    continue
                line = " ".join([name, " = ".join(arguments)]) if arguments else name
                words = line.split(" ")
                bad = "\n" in line or "" in words or len(words) < {"line": 2, "exchange": 4, "drop": 2}.get(name, 1)
                bad = bad or name == "drop" and len(words) > 2 or name == "exchange" and words[2] != "="
                if bad:
                    expect(self, BadLine, line, desk.say, line)
                    continue
                try:
                    getattr(model, name)(*arguments)
                except Refused as refused:
                    expect(self, refused.error, refused.told, desk.say, line)
                    many["refused"] += 1
                else:
                    self.assertEqual(desk.say(line), "ok")
                    many["ok"] += 1
                self.assertEqual(journal(desk.yard), model.journal())
                self.assertEqual(desk.say("names"), " ".join(model.names()) or "none")
            for name in model.names():
                gates = sorted(model.gates()[name])
                self.assertEqual(desk.say(f"gates {name}"), " ".join(str(gate) for gate in gates) or "none")
                for row, worth in model.worths_of(name):
                    self.assertEqual(desk.say(" ".join(["worth", name, *row])), written(worth))
                self.assertEqual(desk.say(f"closed {name}"), written(closed_again(model, name)))
                self.assertEqual(desk.say(f"tell {name}"), "; ".join(model.script(name).split("\n")[1:]))
            self.assertEqual(seen(read_journal(journal(desk.yard))), seen(desk.yard))
        self.assertTrue(many["ok"] > 200 and many["refused"] > 200, many)

    def test_long_lines_and_great_numbers(self):
        desk = Desk(HEAD + "\nline a = one")
        great = "9" * 1000
        self.assertEqual(desk.say(f"line b = add {great} a"), "ok")
        self.assertEqual(desk.say("worth b"), great)
        self.assertEqual(desk.say(f"line c = add -1/{great} a"), "ok")
        self.assertEqual(desk.say("closed c"), f"-1/{great}")
        words = " ".join(f"{at} a" for at in range(1, 2200))
        self.assertLess(len(words), 20000)
        self.assertEqual(desk.say(f"line d = add {words}"), "ok")
        self.assertEqual(desk.say("worth d"), str(sum(range(1, 2200))))
        self.assertEqual(desk.say("tell d"), f"a = one; d = add {words}")
        # Longer ones than Python writes at once.
        for at in range(8):
            desk.say(f"line e{at} = " + (f"e{at - 1} * e{at - 1}" if at else "b * b"))
        number = (10 ** 1000 - 1) ** 256
        answer = desk.say("worth e7")
        self.assertEqual(len(answer), 256000)
        self.assertEqual(answer[:50], "9" * 50)
        top, low = 0, ""
        for _ in range(400):
            number, rest = divmod(number, 10 ** 640)
            low = str(rest).rjust(640, "0") + low
        self.assertEqual((answer, top, number), (low, 0, 0))


if __name__ == "__main__":
    unittest.main()

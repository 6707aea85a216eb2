"""Section 15: deeds on a yard, what it tells, undo and redo, trials, copies."""

import random
import unittest

from opengates.books import Book
from opengates.errors import BadFactor, BadLine, GateError, Later, NoKind, NoName, NoTrial, NothingToRedo, NothingToUndo, OtherGates, Wanted
from opengates.journals import journal
from opengates.scripts import Script
from opengates.tables import count, table
from opengates.yard import Yard
from tests import catalog
from tests.drawing import draw_book
from tests.helpers import any_values, expect, expect_very
from tests.yards import closed_again, draw_deed, Refused, SlowYard

BOOK = Book("book 0\nmark a 1\nmark b 2\nkind e 0 1 1 0")


def yard_of(*lines, book=BOOK):
    found = Yard(book)
    for line in lines:
        found.line(line)
    return found


def seen(yard):
    """All that can be asked of a yard."""
    told = [(name, yard.gates_of(name), yard.worths_of(name), yard.closed(name), yard.script(name).text) for name in yard.names]
    return (yard.book.text, yard.names, yard.text, yard.done, told, journal(yard))


def whole(yard):
    """All that can be asked of a yard, also what can be undone, and done again."""
    told = [seen(yard)]
    for step in ("redo", "undo"):
        other = yard.copy()
        while True:
            try:
                getattr(other, step)()
            except GateError:
                break
            told.append(seen(other))
    return told


class Drawn(unittest.TestCase):
    def same(self, yard, model):
        self.assertIs(yard.book, model.book)
        self.assertEqual((yard.names, yard.text, yard.done), (tuple(model.names()), model.text(), len(model.deeds)))
        self.assertEqual(journal(yard), model.journal())
        for name in model.names():
            self.assertEqual(yard.gates_of(name), tuple(sorted(model.gates()[name])))
            self.assertEqual(yard.script(name), Script(model.script(name)))
            self.assertIs(name in yard, True)

    def worths(self, yard, model):
        for name in model.names():
            self.assertEqual(yard.worths_of(name), model.worths_of(name))
            self.assertEqual(yard.closed(name), closed_again(model, name))
            script = yard.script(name)
            self.assertEqual(tuple(worth for _, worth in yard.worths_of(name)), table(model.book, script).worths)
            self.assertEqual(yard.closed(name), count(model.book, script.closed()))

    def do(self, chance, yard, model, told):
        """One deed on both, which is refused by both or by none."""
        name, arguments = draw_deed(chance, model)
        try:
            getattr(model, name)(*arguments)
        except Refused as refused:
            before = seen(yard)
            expect(self, refused.error, refused.told, getattr(yard, name), *arguments)
            self.assertEqual(seen(yard), before)
            told[refused.error.__name__] = told.get(refused.error.__name__, 0) + 1
            return
        self.assertIsNone(getattr(yard, name)(*arguments))
        told[name] = told.get(name, 0) + 1

    def test_deeds(self):
        told = {}
        for at in range(150):
            chance = random.Random(1500 + at)
            book = draw_book(chance, marks=chance.randint(1, 3))
            yard, model = Yard(book), SlowYard(book)
            for step in range(40):
                self.do(chance, yard, model, told)
                self.same(yard, model)
                if step % 4 == 0:
                    self.worths(yard, model)
        self.assertEqual({name for name, many in told.items() if many > 9},
                         {"line", "exchange", "drop", "undo", "redo", "BadLine", "NoName", "Later", "Wanted", "OtherGates", "NoKind", "BadFactor",
                          "NothingToUndo", "NothingToRedo"}, told)

    def test_copies_go_their_own_ways(self):
        for at in range(12):
            chance = random.Random(1600 + at)
            book = draw_book(chance, marks=2)
            pairs = [(Yard(book), SlowYard(book))]
            for _ in range(50):
                yard, model = chance.choice(pairs)
                self.do(chance, yard, model, {})
                if chance.random() < 0.15 and len(pairs) < 5:
                    found = yard.copy()
                    self.assertEqual(found, yard)
                    self.assertIsNot(found, yard)
                    pairs.append((found, model.copy()))
                for one, other in pairs:
                    self.same(one, other)
            for one, other in pairs:
                self.worths(one, other)

    def test_trials(self):
        told = {"kept": 0, "left": 0, "error": 0}
        for at in range(40):
            chance = random.Random(1700 + at)
            book = draw_book(chance, marks=2)
            yard, model = Yard(book), SlowYard(book)
            for _ in range(4):
                self.do(chance, yard, model, {})
            model = self.tries(chance, yard, model, told, 0)
            self.same(yard, model)
            self.worths(yard, model)
            for _ in range(4):
                self.do(chance, yard, model, {})
                self.same(yard, model)
        self.assertTrue(min(told.values()) > 20, told)

    def tries(self, chance, yard, model, told, depth):
        """A block, with deeds and further blocks within; tells the model of what stands behind it."""
        before, inner = model.copy(), model
        end = chance.choice(("kept", "kept", "left", "error"))
        told[end] += 1
        before_seen = whole(yard)
        try:
            with yard.trial() as held:
                self.assertIs(held, yard)
                if end == "kept" and chance.random() < 0.5:
                    self.assertIsNone(yard.keep())
                if end == "error" and chance.random() < 0.5:
                    yard.keep()
                for _ in range(chance.randint(0, 5)):
                    if depth < 3 and chance.random() < 0.4:
                        inner = self.tries(chance, yard, inner, told, depth + 1)
                    else:
                        self.do(chance, yard, inner, {})
                    self.same(yard, inner)
                if end == "kept":
                    yard.keep()
                if end == "error":
                    raise KeyError("out")
        except KeyError:
            self.assertEqual(end, "error")
        if end == "kept":
            return inner
        self.assertEqual(whole(yard), before_seen)
        return before


class Deeds(unittest.TestCase):
    def test_a_new_yard(self):
        yard = Yard(book=BOOK)
        self.assertIs(yard.book, BOOK)
        self.assertEqual([yard.names, yard.text, yard.done], [(), "script", 0])
        for value in any_values() + ["script", "a"]:
            self.assertIs(value in yard, False)
            for call in (yard.gates_of, yard.worths_of, yard.closed, yard.script, yard.drop):
                expect_very(self, NoName, value, call, value)
            expect_very(self, NoName, value, yard.exchange, value, None)
        expect(self, NothingToUndo, None, yard.undo)
        expect(self, NothingToRedo, None, yard.redo)
        expect(self, NoTrial, None, yard.keep)
        self.assertEqual(yard, Yard(BOOK))

    def test_names_in_it(self):
        yard = yard_of("r = road e 1 2")
        for value in any_values():
            self.assertIs(value in yard, False)
            for call in (yard.gates_of, yard.worths_of, yard.closed, yard.script, yard.drop):
                expect_very(self, NoName, value, call, value)
        self.assertIs("r" in yard, True)
        self.assertIs("e" in yard, False)

    def test_lines_that_cannot_stand(self):
        yard = yard_of("r = road e 1 2", "p = close 2 r")
        before = seen(yard)
        for text in any_values() + ["r = one 1", "q = one 2 1", "q = close 2 p", "q = p * zz", "q = add 2/4 p", "q = add 1 p 1 r", "q = one 1\n",
                                    "q = one 1\ns = one 2", " q = one 1", "q = one  1", "q=one 1", "q = one 1 ", "one = one 1", "q = turn 1 1 p",
                                    "q = q * p", "q = road e 1 5", "q = road ee1 1 2", "", "q = ", "q =", "q", "script", "line q = one 1"]:
            expect_very(self, BadLine, text, yard.line, text)
        expect(self, NoKind, "f", yard.line, "q = road f 1 2")
        self.assertEqual(seen(yard), before)
        prime = yard_of("a = one 1", book=catalog.BY_TWO)
        expect(self, BadFactor, (1, 2), prime.line, "b = add 1 a 1/3 a 1/2 a 1/4 a")
        expect(self, BadFactor, (-3, 4), prime.line, "b = add -3/4 a 1/2 a")
        expect_very(self, BadLine, "b = add 2/4 a", prime.line, "b = add 2/4 a")
        self.assertEqual(prime.done, 1)

    def test_exchanged_lines(self):
        yard = yard_of("r = road e 1 2", "p = close 2 r", "q = p * p", "s = add 2 q 1 p")
        self.assertEqual([worth for _, worth in yard.worths_of("s")], [(10, 1), (3, 1)])
        self.assertIsNone(yard.exchange("p", "one 1"))
        self.assertEqual(yard.text, "script\nr = road e 1 2\np = one 1\nq = p * p\ns = add 2 q 1 p")
        self.assertEqual([worth for _, worth in yard.worths_of("s")], [(3, 1), (3, 1)])
        self.assertEqual(yard.script("s").text, "script\np = one 1\nq = p * p\ns = add 2 q 1 p")
        yard.undo()
        self.assertEqual([worth for _, worth in yard.worths_of("s")], [(10, 1), (3, 1)])
        yard.redo()
        self.assertEqual(yard.closed("s"), (9, 1))
        # One that changes nothing is a deed, too.
        yard.exchange("p", "one 1")
        self.assertEqual(yard.done, 6)

    def test_exchanges_that_cannot_be_done(self):
        yard = yard_of("r = road e 1 2", "p = close 2 r", "q = p * p", "s = add 2 q 1 p", "t = one 1")
        yard.undo()
        before = whole(yard)
        for text in any_values() + ["one 2 1", "p * zz", "close 3 q", "add 1 p 1 r", "one 1\n", "q = one 1", "close 1 t", "add 2/4 p", " one 1", "one 1 "]:
            for name in ("p", "q"):
                expect_very(self, BadLine, text, yard.exchange, name, text)
            for name in ("zz", None, ["p"], "t"):
                expect_very(self, NoName, name, yard.exchange, name, text)
        # Its own gates fit as they are now, and those of lines behind it.
        for name, text, other in (("q", "q * p", "q"), ("q", "p * q", "q"), ("q", "add 1 p 1 s 1 q", "s"), ("p", "close 2 r", None), ("r", "r * p", "r"),
                                  ("r", "turn 1 2 r", "r"), ("q", "close 1 s", "s"), ("p", "turn 1 3 q", "q"), ("p", "q * s", "q"), ("p", "s * q", "s")):
            if other is not None:
                expect(self, Later, other, yard.exchange, name, text)
        expect(self, BadLine, "close 2 q", yard.exchange, "q", "close 2 q")
        expect(self, NoKind, "f", yard.exchange, "q", "road f 1 2")
        for name, text, gates in (("q", "one", ()), ("q", "r * p", (1, 2)), ("q", "turn 1 4 p", (4,)), ("r", "one 1 2 3 4", (1, 2, 3, 4)), ("r", "one 1", (1,))):
            expect(self, OtherGates, gates, yard.exchange, name, text)
        self.assertEqual(whole(yard), before)
        prime = yard_of("a = one 1", "b = one 1", "c = one 1 2", book=catalog.BY_TWO)
        expect(self, Later, "b", prime.exchange, "b", "add 1 a 1/2 b")
        expect(self, BadFactor, (1, 2), prime.exchange, "b", "add 1 a 1/2 a")
        expect(self, BadFactor, (1, 2), prime.exchange, "c", "add 1 a 1/2 a")
        expect(self, NoKind, "z", prime.exchange, "c", "road z 1 1")

    def test_drops(self):
        yard = yard_of("r = road e 1 2", "p = close 2 r", "q = p * p", "s = add 2 q 1 p")
        for name, other in (("r", "p"), ("p", "q"), ("q", "s")):
            expect(self, Wanted, other, yard.drop, name)
        for name in ("s", "q", "p", "r"):
            self.assertIsNone(yard.drop(name))
            self.assertIs(name in yard, False)
        self.assertEqual([yard.text, yard.names, yard.done], ["script", (), 8])
        yard.line("r = one 3")
        self.assertEqual(yard.gates_of("r"), (3,))

    def test_a_name_that_comes_again(self):
        yard = yard_of("r = road e 1 2", "p = close 2 r")
        self.assertEqual(yard.closed("p"), (4, 1))
        yard.drop("p")
        yard.line("p = close 1 r")
        self.assertEqual(yard.worths_of("p"), ((("a",), (2, 1)), (("b",), (1, 1))))
        self.assertEqual(yard.gates_of("p"), (2,))
        yard.drop("p")
        yard.drop("r")
        yard.line("p = one 1 2")
        self.assertEqual(yard.worths_of("p")[3], (("b", "b"), (1, 1)))

    def test_what_it_tells(self):
        yard = yard_of("u = one 2", "r = road e 4 2", "c = close 2 r", "w = u * u", "e = close 4 c")
        self.assertEqual(yard.worths_of("r"), ((("a", "a"), (0, 1)), (("a", "b"), (1, 1)), (("b", "a"), (1, 1)), (("b", "b"), (0, 1))))
        self.assertEqual(yard.worths_of("e"), (((), (4, 1)),))
        self.assertEqual(yard.closed("e"), (4, 1))
        self.assertEqual(yard.script("e").text, "script\nr = road e 4 2\nc = close 2 r\ne = close 4 c")
        self.assertEqual(yard.script("u").text, "script\nu = one 2")
        self.assertEqual(yard.script(name="w"), Script("script\nu = one 2\nw = u * u"))
        self.assertEqual([yard.gates_of(name="r"), yard.worths_of(name="u")[0], yard.closed(name="u")], [(2, 4), (("a",), (1, 1)), (3, 1)])

    def test_undo_and_redo(self):
        yard = yard_of("r = road e 1 2", "p = close 2 r")
        yard.undo()
        yard.undo()
        expect(self, NothingToUndo, None, yard.undo)
        yard.redo()
        expect_very(self, BadLine, "zz", yard.line, "zz")
        self.assertEqual(yard.names, ("r",))
        # What is refused is no deed.
        yard.redo()
        self.assertEqual(yard.names, ("r", "p"))
        expect(self, NothingToRedo, None, yard.redo)
        yard.undo()
        yard.exchange("r", "road e 1 2")
        expect(self, NothingToRedo, None, yard.redo)
        self.assertEqual(yard.done, 2)

    def test_equality(self):
        one, other = yard_of("a = one 1"), yard_of("a = one 1")
        self.assertEqual(one, other)
        other.undo()
        self.assertNotEqual(one, other)
        other.redo()
        one.undo()
        one.redo()
        self.assertEqual(one, other)
        other.line("b = one")
        other.drop("b")
        # The same lines stand, but their journals are unlike.
        self.assertEqual(one.text, other.text)
        self.assertNotEqual(one, other)
        self.assertNotEqual(one, yard_of("a = one 1", book=Book(BOOK.text.replace("mark b 2", "mark b 3"))))
        self.assertEqual(one, yard_of("a = one 1", book=Book(BOOK.text)))
        for value in any_values() + [one.text, journal(one), one.book]:
            self.assertFalse(one == value)
            self.assertTrue(one != value)


class Trials(unittest.TestCase):
    def test_left_kept_and_ended_by_an_error(self):
        yard = yard_of("a = one 1", "b = one 2")
        yard.undo()
        before = whole(yard)
        with yard.trial() as held:
            self.assertIs(held, yard)
            held.line("c = one 3")
            held.undo()
            held.undo()
            self.assertEqual(held.names, ())
        self.assertEqual(whole(yard), before)
        with self.assertRaises(ZeroDivisionError):
            with yard.trial():
                yard.line("c = one 3")
                yard.keep()
                1 // 0
        self.assertEqual(whole(yard), before)
        with self.assertRaises(NoName):
            with yard.trial():
                yard.keep()
                yard.drop("zz")
        self.assertEqual(whole(yard), before)
        with yard.trial():
            yard.keep()
            yard.line("c = one 3")
        self.assertEqual([yard.names, yard.done], [("a", "c"), 2])
        expect(self, NothingToRedo, None, yard.redo)
        expect(self, NoTrial, None, yard.keep)

    def test_within_each_other(self):
        yard = Yard(BOOK)
        with yard.trial():
            yard.line("a = one 1")
            with yard.trial():
                yard.line("b = one 2")
                yard.keep()
            self.assertEqual(yard.names, ("a", "b"))
            with yard.trial():
                yard.drop("b")
            self.assertEqual(yard.names, ("a", "b"))
        self.assertEqual([yard.names, yard.done], [(), 0])
        with yard.trial():
            with yard.trial():
                yard.line("a = one 1")
                yard.keep()
            yard.keep()
        self.assertEqual(yard.names, ("a",))
        # keep belongs to the innermost block, also behind one that ended.
        with yard.trial():
            with yard.trial():
                pass
            yard.line("b = one 2")
            yard.keep()
        self.assertEqual(yard.names, ("a", "b"))

    def test_it_is_as_it_was_when_the_block_was_entered(self):
        yard = Yard(BOOK)
        block = yard.trial()
        yard.line("a = one 1")
        expect(self, NoTrial, None, yard.keep)
        with block:
            yard.undo()
        self.assertEqual(yard.names, ("a",))

    def test_undo_goes_on_to_what_was_done_ahead(self):
        yard = yard_of("a = one 1", "b = one 2")
        with yard.trial():
            yard.undo()
            yard.undo()
            yard.line("c = one")
            yard.keep()
        self.assertEqual([yard.names, yard.done], [("c",), 1])
        expect(self, NothingToRedo, None, yard.redo)
        yard.undo()
        self.assertEqual(yard.names, ())

    def test_tried(self):
        yard = yard_of("a = one 1")
        def look(held):
            held.line("b = one 2")
            return (held, held.names)
        self.assertEqual(yard.tried(look), (yard, ("a", "b")))
        self.assertEqual(yard.names, ("a",))
        for keep in (False, 1, "yes", None, (True,), [True], 0, ()):
            self.assertEqual(yard.tried(look, keep=keep)[1], ("a", "b"))
            self.assertEqual(yard.names, ("a",))
        self.assertEqual(yard.tried(look=look, keep=True)[1], ("a", "b"))
        self.assertEqual(yard.names, ("a", "b"))
        yard.undo()
        self.assertIsNone(yard.tried(lambda held: held.line("c = one") or held.keep()))
        self.assertEqual(yard.names, ("a", "c"))
        for keep in (True, False):
            with self.assertRaises(BadLine):
                yard.tried(lambda held: held.drop("c") or held.keep() or held.line(""), keep=keep)
            with self.assertRaises(KeyError):
                yard.tried(lambda held: {}[held.drop("a")], keep=keep)
        self.assertEqual([yard.names, yard.done], [("a", "c"), 2])
        expect(self, NoTrial, None, yard.keep)
        self.assertRaises(TypeError, yard.tried, look, True)

    def test_tried_within_each_other(self):
        yard = Yard(BOOK)
        def outer(held):
            held.line("a = one 1")
            held.tried(lambda inner: inner.line("b = one 2"), keep=True)
            held.tried(lambda inner: inner.line("c = one 3"))
            with held.trial():
                held.line("d = one 4")
                held.keep()
            return held.names
        self.assertEqual(yard.tried(outer), ("a", "b", "d"))
        self.assertEqual(yard.names, ())
        self.assertEqual(yard.tried(outer, keep=True), ("a", "b", "d"))
        self.assertEqual(yard.names, ("a", "b", "d"))
        # A kept block within one that is not kept leaves nothing behind.
        self.assertIsNone(yard.tried(lambda held: held.tried(lambda inner: inner.drop("d"), keep=True)))
        self.assertEqual(yard.names, ("a", "b", "d"))

    def test_copies_are_outside_of_all_blocks(self):
        yard = yard_of("a = one 1")
        with yard.trial():
            yard.line("b = one 2")
            with yard.trial():
                yard.keep()
                other = yard.copy()
                expect(self, NoTrial, None, other.keep)
                other.line("c = one 3")
            other.line("d = one 4")
        self.assertEqual([yard.names, other.names, other.done], [("a",), ("a", "b", "c", "d"), 4])
        self.assertIs(other.book, yard.book)
        for _ in range(4):
            other.undo()
        expect(self, NothingToUndo, None, other.undo)
        with other.trial():
            other.redo()
            expect(self, NoTrial, None, yard.keep)
            other.keep()
        self.assertEqual([yard.names, other.names], [("a",), ("a",)])

    def test_copies_have_what_can_be_undone_and_done_again(self):
        yard = yard_of("a = one 1", "b = one 2", "c = one 3")
        yard.undo()
        other = yard.copy()
        self.assertEqual(whole(other), whole(yard))
        other.redo()
        self.assertEqual([yard.names, other.names], [("a", "b"), ("a", "b", "c")])
        yard.line("d = one")
        other.undo()
        other.redo()
        self.assertEqual(other.names, ("a", "b", "c"))
        expect(self, NothingToRedo, None, yard.redo)


class Long(unittest.TestCase):
    def test_four_hundred_lines(self):
        yard = yard_of("r = road e 1 2")
        rows = [f"a{at} = " + ("turn 1 2 {0}", "{0} * r", "add 1/2 {0} 1/2 {0}")[at % 3].format(f"a{at - 1}" if at > 1 else "r") for at in range(1, 400)]
        for row in rows:
            yard.line(row)
        self.assertEqual([len(yard.names), yard.done, yard.closed("a399")], [400, 400, (4, 1)])
        self.assertEqual(len(yard.script("a399")), 400)
        yard.exchange("r", "one 1 2")
        self.assertEqual(yard.closed("a399"), (9, 1))
        for _ in range(401):
            yard.undo()
        self.assertEqual(yard.names, ())
        for _ in range(401):
            yard.redo()
        self.assertEqual(yard.closed("a399"), (9, 1))
        expect(self, Wanted, "a1", yard.drop, "r")
        with yard.trial():
            for at in range(399, 0, -1):
                yard.drop(f"a{at}")
            self.assertEqual([yard.names, yard.done], [("r",), 800])
        self.assertEqual(yard.done, 401)

    def test_great_lines_that_nobody_asks(self):
        # By 0 nothing is specified of these numbers, but what is asked does not hang on them.
        yard = yard_of("r = road e 1 2", "p = close 2 r", "q = p * p")
        for at in range(300):
            yard.line(f"a{at} = {'q' if at == 0 else f'a{at - 1}'} * {'q' if at == 0 else f'a{at - 1}'}")
        self.assertEqual(yard.closed("q"), (6, 1))
        yard.exchange("p", "one 1")
        self.assertEqual(yard.closed("a299"), (3, 1))

    def test_all_rows_of_four_marks(self):
        yard = yard_of("a = one 1 2 3 4", "b = road k 3 1", "c = a * b", "d = close 2 c", book=catalog.SQUARE)
        self.assertEqual([len(yard.worths_of(name)) for name in ("a", "b", "c", "d")], [256, 16, 256, 64])
        self.assertEqual(yard.closed("d"), (8 * 16, 1))


if __name__ == "__main__":
    unittest.main()

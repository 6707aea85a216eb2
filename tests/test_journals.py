"""Section 16: journals."""

import random
import unittest

from opengates.books import Book
from opengates.errors import BadJournal, GateError
from opengates.journals import journal, read_journal
from opengates.yard import Yard
from tests import catalog
from tests.drawing import draw_book
from tests.helpers import any_values, expect, not_strings
from tests.readers import book_fault
from tests.test_yard import BOOK, seen, yard_of
from tests.yards import draw_deed, Refused, SlowYard


def fault(text):
    """The number that BadJournal would keep, or None: a second reader."""
    lines = text.split("\n")
    if "yard" not in lines:
        return len(lines) + 1
    at = lines.index("yard")
    if at == 0:
        return 1
    wrong = book_fault("\n".join(lines[:at]))
    if wrong is not None:
        return wrong
    model = SlowYard(Book("\n".join(lines[:at])))
    for number, line in enumerate(lines[at + 1:], at + 2):
        word, _, rest = line.partition(" ")
        name, equal, form = rest.partition(" = ")
        try:
            if word == "line":
                model.line(rest)
            elif word == "exchange" and equal:
                model.exchange(name, form)
            elif word == "drop":
                model.drop(rest)
            else:
                return number
        except Refused:
            return number
    return None


def drawn_yard(chance, deeds=12):
    """A yard on which something was done, and its slow second."""
    book = draw_book(chance, marks=chance.randint(1, 3))
    yard, model = Yard(book), SlowYard(book)
    while len(model.deeds) < deeds:
        name, arguments = draw_deed(chance, model)
        try:
            getattr(model, name)(*arguments)
        except Refused:
            continue
        getattr(yard, name)(*arguments)
    return yard, model


class Journals(unittest.TestCase):
    def test_forms(self):
        yard = yard_of("r = road e 1 2", "p = close 2 r")
        yard.exchange("p", "one 1")
        yard.line("q = add 1/2 p -3 p")
        yard.drop("q")
        self.assertEqual(journal(yard), BOOK.text + "\nyard\nline r = road e 1 2\nline p = close 2 r\nexchange p = one 1\nline q = add 1/2 p -3 p\ndrop q")
        yard.undo()
        self.assertEqual(journal(yard=yard).split("\n")[-1], "line q = add 1/2 p -3 p")
        self.assertEqual(journal(Yard(BOOK)), BOOK.text + "\nyard")
        self.assertEqual(read_journal(BOOK.text + "\nyard"), Yard(BOOK))

    def test_there_and_back(self):
        for at in range(40):
            yard, model = drawn_yard(random.Random(1800 + at))
            text = journal(yard)
            self.assertEqual(text, model.journal())
            again = read_journal(text=text)
            self.assertEqual(again, yard)
            self.assertEqual(seen(again), seen(yard))
            self.assertEqual(journal(again), text)
            self.assertIsNone(fault(text))
            # All deeds of what was read can be taken back, none can be done again.
            self.assertRaises(GateError, again.redo)
            for _ in range(again.done):
                again.undo()
            self.assertEqual(again, Yard(yard.book))

    def test_within_trials(self):
        yard = yard_of("r = one 1")
        with yard.trial():
            yard.line("s = one 2")
            self.assertEqual(journal(yard), BOOK.text + "\nyard\nline r = one 1\nline s = one 2")
            self.assertEqual(read_journal(journal(yard)), yard)
        self.assertEqual(journal(yard), BOOK.text + "\nyard\nline r = one 1")

    def check(self, text):
        wrong = fault(text)
        if wrong is None:
            self.assertEqual(journal(read_journal(text)), text)
        else:
            expect(self, BadJournal, wrong, read_journal, text)
        return wrong

    def test_lines_out_twice_exchanged_or_otherwise(self):
        right = wrong = 0
        numbers = set()
        for at in range(20):
            chance = random.Random(1900 + at)
            text = journal(drawn_yard(chance, 8)[0])
            lines = text.split("\n")
            texts = [text + "\n", "\n" + text, text + " ", text.replace("\n", "\n\n", 1)]
            for here in range(len(lines)):
                texts.append("\n".join(lines[:here] + lines[here + 1:]))
                texts.append("\n".join(lines[:here + 1] + lines[here:]))
                texts.append("\n".join(lines[:here] + [""] + lines[here:]))
                there = chance.randrange(len(lines))
                other = list(lines)
                other[here], other[there] = lines[there], lines[here]
                texts.append("\n".join(other))
                for line in (lines[here] + " ", " " + lines[here], lines[here].replace(" ", "  ", 1), lines[here].replace("line ", "Line "), "yard", "undo",
                             lines[here].replace(" = ", " ="), lines[here].replace("line ", "exchange "), "redo", "drop", "line", "exchange", "names", "drop zz",
                             lines[here].replace("exchange ", "line "), "line ", "line a", "exchange a = ", "drop ", "drop a b", "exchange a", "exchange a =",
                             lines[here].replace("drop ", "drop  "), lines[here].replace("1", "2", 1), "exchange = = one 1", "exchange a b = one 1", "none"):
                    texts.append("\n".join(lines[:here] + [line] + lines[here + 1:]))
            for one in texts:
                number = self.check(one)
                right += number is None
                wrong += number is not None
                numbers.add(number)
        self.assertTrue(right > 100 and wrong > 2000 and len(numbers) > 14, (right, wrong, numbers))

    def test_without_a_line_yard(self):
        for text, number in (("", 2), ("book 0", 2), (BOOK.text, 5), (BOOK.text + "\nYard", 6), (BOOK.text + "\nyard ", 6), (BOOK.text + "\n yard\nline a = one", 7),
                             ("zz\nzz\nzz", 4), ("yards", 2), ("\n", 3)):
            expect(self, BadJournal, number, read_journal, text)

    def test_the_book(self):
        for text, number in (("yard", 1), ("yard\nyard", 1), ("\nyard", 1), ("book 0\nyard", 2), ("book 1\nyard", 1), ("book 0\nmark a 1\nyard", 3),
                             ("book 0\nmark a 0\nkind k 1\nyard", 2), (BOOK.text + "\nkind f 1\nyard\nzz", 5), (BOOK.text + "\n\nyard", 5)):
            expect(self, BadJournal, number, read_journal, text)

    def test_deeds_that_are_refused(self):
        head = BOOK.text + "\nyard\n"
        for text, number in (("line a = one 1\nline a = one 2", 7), ("line a = road f 1 2", 6), ("drop a", 6), ("line a = one 1\nexchange a = one 2", 7), ("yard", 6),
                             ("line a = one 1\nline b = a * a\ndrop a", 8), ("line a = one 1\nexchange a = a * a", 7), ("line a = one 1\nundo", 7), ("", 6),
                             ("line a = one 1\n", 7), ("line a = one 1\nswap a = one 1", 7), ("line a = one 1\nExchange a = one 1", 7), ("a = one 1", 6), ("line a = one 1\nexchange b = one 1", 7), ("line a = one 1 ", 6)):
            expect(self, BadJournal, number, read_journal, head + text)
        prime = catalog.BY_TWO.text + "\nyard\nline a = one 1\n"
        expect(self, BadJournal, 7, read_journal, prime + "line b = add 1/2 a")
        expect(self, BadJournal, 7, read_journal, prime + "exchange a = add 1/2 a")

    def test_what_is_no_string(self):
        for value in not_strings():
            expect(self, BadJournal, 0, read_journal, value)
        for value in any_values():
            if isinstance(value, str):
                expect(self, BadJournal, len(value.split("\n")) + 1, read_journal, value)

    def test_long_journals(self):
        rows = [BOOK.text, "yard", "line r = road e 1 2"]
        for at in range(1, 399):
            rows.append(f"line a{at} = " + ("turn 1 2 {0}", "{0} * r")[at % 2].format(f"a{at - 1}" if at > 1 else "r"))
        text = "\n".join(rows + ["exchange a1 = one 1 2", "drop a398"])
        self.assertLess(len(text), 20000)
        yard = read_journal(text)
        self.assertEqual([journal(yard), yard.done, yard.closed("a397")], [text, 401, (4, 1)])
        expect(self, BadJournal, len(text.split("\n")) + 1, read_journal, text + "\ndrop a398")


if __name__ == "__main__":
    unittest.main()

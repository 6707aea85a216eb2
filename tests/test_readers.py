"""Many texts, right and nearly right, read by the program and in another way."""

import random
import unittest

from opengates.books import Book
from opengates.errors import BadBook, BadScript
from opengates.scripts import Script
from tests.readers import book_fault, form_gates, script_fault

TEXTS = 12000


def any_book(chance):
    by = chance.choice([0, 0, 2, 3, 5, 97])
    marks = chance.sample(["a", "b", "ab", "zzzz", "k"], chance.randint(1, 4))
    kinds = chance.sample(["k", "l", "a", "mark"], chance.randint(1, 3))
    top = by - 1 if by else 10 ** 12
    numbers = [0, 1, top] + ([] if by else [-1, -top, 10, 7])
    rows = [f"book {by}"]
    rows += [f"mark {mark} {chance.choice([number for number in numbers if number])}" for mark in marks]
    for kind in kinds:
        rows.append(" ".join(["kind", kind] + [str(chance.choice(numbers)) for _ in range(len(marks) ** 2)]))
    return "\n".join(rows)


def any_script(chance):
    gates = {}
    rows = ["script"]
    names = chance.sample(["a", "b", "x1", "x2", "abcdef", "z123456789", "one1", "q", "a0"], chance.randint(1, 8))
    for name in names:
        ready = list(gates) or ["a"]
        while True:
            one, other = chance.choice(ready), chance.choice(ready)
            pair = f"{chance.randint(1, 4)} {chance.randint(1, 4)}"
            factor = chance.choice(["0", "1", "-1", "1/2", "-7/3", "12"])
            form = chance.choice([
                "one" + "".join(f" {gate}" for gate in sorted(chance.sample([1, 2, 3, 4], chance.randint(0, 4)))),
                f"road k {pair}", f"{one} * {other}", f"close {pair[0]} {one}", f"turn {pair} {one}",
                f"add {factor} {one}", f"add {factor} {one} -1 {other}", f"add 2 {one} {factor} {one}"])
            own = form_gates(form, gates)
            if own is not None:
                break
        rows.append(f"{name} = {form}")
        gates[name] = own
    return "\n".join(rows)


def spoiled(text, chance, signs, words):
    """The text with a few small changes."""
    for _ in range(chance.choice([0, 1, 1, 1, 2, 3])):
        at = chance.randint(0, len(text))
        way = chance.randint(0, 6)
        if way == 0:
            text = text[:at] + chance.choice(signs) + text[at:]
        elif way == 1:
            text = text[:at] + text[at + 1:]
        elif way == 2:
            text = text[:at] + chance.choice(signs) + text[at + 1:]
        else:
            rows = text.split("\n")
            row = chance.randrange(len(rows))
            if way == 3:
                rows.insert(row, chance.choice(rows))
            elif way == 4:
                del rows[row]
            else:
                parts = rows[row].split(" ")
                parts[chance.randrange(len(parts))] = chance.choice(words)
                rows[row] = " ".join(parts)
            text = "\n".join(rows)
    return text


class Readers(unittest.TestCase):
    def compare(self, kind, error, fault, texts):
        right = 0
        for text in texts:
            try:
                self.assertEqual(kind(text).text, text)
                found = None
            except error as raised:
                found = raised.value
            self.assertEqual(found, fault(text), text)
            right += found is None
        self.assertTrue(len(texts) // 10 < right < 9 * len(texts) // 10, right)

    def test_books(self):
        chance = random.Random(4)
        words = ["book", "mark", "kind", "0", "1", "-1", "2", "97", "a", "b", "k", "zzzz", "", "00", "-0", "1000000000001"]
        self.compare(Book, BadBook, book_fault, [
            spoiled(any_book(chance), chance, " \n-0123459abkz+/", words) for _ in range(TEXTS)])

    def test_scripts(self):
        chance = random.Random(5)
        words = ["script", "=", "one", "road", "close", "turn", "add", "*", "0", "1", "2", "3", "4", "5", "-1", "1/2", "2/4",
                 "a", "b", "x1", "k", "", "abcdef", "-0"]
        self.compare(Script, BadScript, script_fault, [
            spoiled(any_script(chance), chance, " \n-*=/01234590abkxz", words) for _ in range(TEXTS)])

    def test_gates_of_scripts(self):
        chance = random.Random(6)
        for _ in range(2000):
            script = Script(any_script(chance))
            gates = {}
            for line in script.text.split("\n")[1:]:
                name, form = line.split(" = ")
                gates[name] = form_gates(form, gates)
                self.assertEqual(script.gates_of(name), tuple(sorted(gates[name])))
            self.assertEqual(script.gates, tuple(sorted(gates[name])))
            self.assertEqual(script.width, max(len(own) for own in gates.values()))


if __name__ == "__main__":
    unittest.main()

"""A slow second yard: lines as texts, all that stood ahead of each deed kept whole."""

from opengates.errors import BadFactor, BadLine, Later, NoKind, NoName, NothingToRedo, NothingToUndo, OtherGates, Wanted
from tests.again import gates_again, rows_again, worths_again
from tests.readers import form_gates, script_fault


class Refused(Exception):
    """A deed that can't be done: the error that is wanted, and its value."""

    def __init__(self, error, value):
        super().__init__(error, value)
        self.error = error
        self.told = value


class SlowYard:
    def __init__(self, book):
        self.book = book
        self.lines = []
        self.deeds = []
        self.past = []
        self.undone = []

    def copy(self):
        found = SlowYard(self.book)
        found.lines, found.deeds, found.past, found.undone = list(self.lines), list(self.deeds), list(self.past), list(self.undone)
        return found

    def names(self):
        return [line.split(" ")[0] for line in self.lines]

    def text(self):
        return "\n".join(["script"] + self.lines)

    def gates(self):
        return gates_again(self.text())

    def need_fit(self, form):
        words = form.split(" ")
        if words[0] == "road" and words[1] not in self.book.kinds:
            raise Refused(NoKind, words[1])
        if words[0] == "add" and self.book.by:
            for word in words[1::2]:
                top, _, bottom = word.partition("/")
                if int(bottom or "1") % self.book.by == 0:
                    raise Refused(BadFactor, (int(top), int(bottom)))

    def need_name(self, name):
        if type(name) is not str or name not in self.names():
            raise Refused(NoName, name)

    def done(self, deed, lines):
        self.past.append(self.lines)
        self.deeds.append(deed)
        self.undone = []
        self.lines = lines

    def line(self, text):
        if type(text) is not str or "\n" in text or script_fault("\n".join(["script"] + self.lines + [text])) is not None:
            raise Refused(BadLine, text)
        self.need_fit(text.partition(" = ")[2])
        self.done(f"line {text}", self.lines + [text])

    def exchange(self, name, text):
        self.need_name(name)
        gates = self.gates()
        own = form_gates(text, gates) if type(text) is str and "\n" not in text else None
        if own is None:
            raise Refused(BadLine, text)
        at = self.names().index(name)
        for word in operands(text):
            if word in self.names()[at:]:
                raise Refused(Later, word)
        self.need_fit(text)
        if own != gates[name]:
            raise Refused(OtherGates, tuple(sorted(own)))
        self.done(f"exchange {name} = {text}", self.lines[:at] + [f"{name} = {text}"] + self.lines[at + 1:])

    def drop(self, name):
        self.need_name(name)
        for line in self.lines:
            if name in operands(line.partition(" = ")[2]):
                raise Refused(Wanted, line.split(" ")[0])
        self.done(f"drop {name}", [line for line in self.lines if line.split(" ")[0] != name])

    def undo(self):
        if not self.deeds:
            raise Refused(NothingToUndo, None)
        self.undone.append((self.deeds.pop(), self.lines))
        self.lines = self.past.pop()

    def redo(self):
        if not self.undone:
            raise Refused(NothingToRedo, None)
        deed, lines = self.undone.pop()
        self.past.append(self.lines)
        self.deeds.append(deed)
        self.lines = lines

    def script(self, name):
        """The text of the lines on which one hangs, and of that one."""
        wanted = {name}
        found = []
        for line in self.lines[::-1]:
            if line.split(" ")[0] in wanted:
                found.append(line)
                wanted |= set(operands(line.partition(" = ")[2]))
        return "\n".join(["script"] + found[::-1])

    def worths_of(self, name):
        rows = rows_again(self.book, len(self.gates()[name]))
        return tuple(zip(rows, worths_again(self.book, self.script(name))))

    def journal(self):
        return "\n".join([self.book.text, "yard"] + self.deeds)


def operands(form):
    """The names in a form, as they stand."""
    words = form.split(" ")
    if words[0] in ("one", "road"):
        return []
    if words[0] in ("close", "turn"):
        return words[-1:]
    if words[0] == "add":
        return words[2::2]
    return [words[0], words[2]]


def draw_form(chance, model, rather=None):
    """The words behind NAME =, right ones rather than wrong ones; its gates rather as told."""
    gates = model.gates() if model.lines else {}
    names = list(gates)
    kinds = ["k", "l"] if chance.random() < 0.88 else ["nope", "k1", "q"]
    forms = []
    for _ in range(12):
        way = chance.random()
        if way < 0.2 or not names:
            forms.append("one" + "".join(f" {gate}" for gate in sorted(chance.sample((1, 2, 3), chance.randint(0, 2)))))
        elif way < 0.35:
            forms.append(f"road {chance.choice(kinds)} {chance.randint(1, 3)} {chance.randint(1, 3)}")
        elif way < 0.55:
            forms.append(f"{chance.choice(names)} * {chance.choice(names)}")
        elif way < 0.7:
            forms.append(f"close {chance.randint(1, 3)} {chance.choice(names)}")
        elif way < 0.8:
            forms.append(f"turn {chance.randint(1, 3)} {chance.randint(1, 3)} {chance.choice(names)}")
        else:
            likes = [name for name in names if gates[name] == gates[chance.choice(names)]] or names
            forms.append("add" + "".join(f" {chance.choice(('1', '-1', '2', '0', '1/2', '-3/5', '1/7', '2/4'))} {chance.choice(likes)}"
                                         for _ in range(chance.randint(1, 3))))
    right = [form for form in forms if form_gates(form, gates) is not None]
    fitting = [form for form in right if rather is not None and form_gates(form, gates) == rather]
    if chance.random() < 0.15:
        return spoiled(chance, chance.choice(forms))
    return chance.choice(fitting or right or forms)


def spoiled(chance, form):
    """A form with a word out, twice, or otherwise."""
    words = form.split(" ")
    at = chance.randrange(len(words))
    return chance.choice([" ".join(words[:at] + words[at + 1:]), " ".join(words[:at + 1] + words[at:]), form + " ", " " + form,
                          form.replace(" ", "  ", 1), form + "\n", " ".join(words[:at] + [chance.choice(("5", "0", "zz", "01", "one"))] + words[at + 1:]), ""])


def draw_deed(chance, model):
    """The name of a deed, and its arguments."""
    names = model.names()
    way = chance.random()
    pool = ["a", "b", "c1", "x2", "road7", "none", "yard", "zz", "d", "e", "f0", "g", "h123"]
    if way < 0.42 or not names and way < 0.8:
        name = chance.choice(pool + names[:1]) if chance.random() < 0.9 else chance.choice(("one", "A", "", "abcdefg", "a b"))
        text = f"{name} = {draw_form(chance, model)}"
        return "line", (chance.choice((text, text, text, text, text, text.replace(" =", "", 1), "", None, 5)) if chance.random() < 0.2 else text,)
    if way < 0.68:
        name = chance.choice(names) if chance.random() < 0.93 else chance.choice(pool + [None, ("a",), ["a"], 1, "", "nope"])
        rather = model.gates().get(name) if type(name) is str and chance.random() < 0.85 else None
        return "exchange", (name, draw_form(chance, model, rather) if chance.random() < 0.97 else chance.choice((None, 1, ["one"], ("one",))))
    if way < 0.78:
        return "drop", (chance.choice(names) if chance.random() < 0.9 else chance.choice(pool + [None, 1, ["a"], {"a": 1}]),)
    return ("undo", ()) if way < 0.9 else ("redo", ())


def closed_again(model, name):
    """The count of a line when all its gates are closed."""
    text = model.script(name)
    last = text.split("\n")[-1].split(" ")[0]
    for at, gate in enumerate(sorted(model.gates()[name])):
        text += f"\nqqq{at} = close {gate} {last}"
        last = f"qqq{at}"
    return worths_again(model.book, text)[0]

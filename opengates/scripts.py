"""Scripts: texts that build what is half-built, line by line."""

from opengates.checks import is_gate
from opengates.errors import BadGates, BadScript, NoName, OtherGates
from opengates.forms import numbered, read_line, written


class Script:
    """A text of lines, each of which gives a name to something half-built."""

    def __init__(self, text):
        if not isinstance(text, str):
            raise BadScript(0)
        lines, gates = _read_script(text)
        self.text = text
        self.lines = lines
        self.gates = gates[lines[-1][0]]
        self.width = max([len(own) for own in gates.values()])
        self.is_plain = not any([line[1] == "add" for line in lines])
        self._gates_by_name = gates

    def __len__(self):
        return len(self.lines)

    def __contains__(self, value):
        return isinstance(value, str) and value in self._gates_by_name

    def __eq__(self, other):
        return isinstance(other, Script) and self.text == other.text

    def __mul__(self, other):
        if not isinstance(other, Script):
            return NotImplemented
        rows = _rows_of_both(self, other)
        return _script_of(rows, [f"x{len(self.lines)} * x{len(rows)}"])

    def __add__(self, other):
        if not isinstance(other, Script):
            return NotImplemented
        if self.gates != other.gates:
            raise OtherGates(other)
        rows = _rows_of_both(self, other)
        return _script_of(rows, [f"add 1 x{len(self.lines)} 1 x{len(rows)}"])

    def __sub__(self, other):
        if not isinstance(other, Script):
            return NotImplemented
        if self.gates != other.gates:
            raise OtherGates(other)
        rows = _rows_of_both(self, other)
        return _script_of(rows, [f"add 1 x{len(self.lines)} -1 x{len(rows)}"])

    def __neg__(self):
        rows = _rows(self.lines, 1)
        return _script_of(rows, [f"add -1 x{len(rows)}"])

    def gates_of(self, name):
        """The ascending tuple of the gates of the line of this name."""
        if name not in self:
            raise NoName(name)
        return self._gates_by_name[name]

    def closed(self):
        """The script with one line more for each of its gates, which closes it."""
        rows = _rows(self.lines, 1)
        forms = [f"close {gate} x{len(rows) + at}" for at, gate in enumerate(self.gates)]
        return _script_of(rows, forms)

    def turned(self, one, other):
        """The script with one line more, which exchanges two gates."""
        if not _can_turn(self.gates, one, other):
            raise BadGates((one, other))
        rows = _rows(self.lines, 1)
        return _script_of(rows, [f"turn {one} {other} x{len(rows)}"])


def exchanged(script, name, other):
    """The script in which all of another one stands in the place of the line of this name."""
    own = script.gates_of(name)
    if other.gates != own:
        raise OtherGates(other)
    at = [line[0] for line in script.lines].index(name)
    ahead = script.lines[:at]
    behind = script.lines[at + 1:]
    last = at + len(other.lines)
    names = numbered(ahead, 1)
    # Who used the line of this name finds the other script's last line under it.
    names[name] = f"x{last}"
    names.update(numbered(behind, last + 1))
    rows = written(ahead, names) + _rows(other.lines, at + 1) + written(behind, names)
    return _script_of(rows, [])


def _read_script(text):
    """The lines of a script, and a dict of the gates of each one by its name."""
    rows = text.split("\n")
    if rows[0] != "script":
        raise BadScript(1)
    if len(rows) == 1:
        raise BadScript(2)
    lines = []
    gates = {}
    for number, row in enumerate(rows[1:], start=2):
        line = read_line(row, gates)
        if line is None:
            raise BadScript(number)
        name, form, parts, own = line
        lines.append((name, form, parts))
        gates[name] = own
    return tuple(lines), gates


def _can_turn(gates, one, other):
    if not is_gate(one) or not is_gate(other) or one == other:
        return False
    return one in gates or other in gates


def _rows(lines, first):
    """The texts of all lines of a script, called x and a number from first on."""
    return written(lines, numbered(lines, first))


def _rows_of_both(one, other):
    return _rows(one.lines, 1) + _rows(other.lines, len(one.lines) + 1)


def _script_of(rows, forms):
    """The script of rows called x1, x2, .., and of forms that go on behind them."""
    more = [f"x{number} = {form}" for number, form in enumerate(forms, start=len(rows) + 1)]
    return Script("\n".join(["script", *rows, *more]))

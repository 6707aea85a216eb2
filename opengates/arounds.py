"""Arounds: scripts with a hole, and what they count with."""

from opengates.errors import BadAround, OtherGates
from opengates.forms import lines_of_last, numbered, operands_of, read_gates, read_line, written
from opengates.scripts import Script
from opengates.words import is_line_name
from opengates.worked import last_worths, need_fit, row_weights
from opengates.worths import UNIT, paired_sum, times
from opengates.writers import Writer

HOLE = "h"


class Around:
    """A text of lines that use a hole, in which a script can be filled."""

    def __init__(self, text):
        if not isinstance(text, str):
            raise BadAround(0)
        hole, lines, gates, hanging = _read_around(text)
        self.text = text
        self.hole = hole
        self.gates = gates[hole]
        self.width = max([len(own) for own in gates.values()])
        self.lines = lines
        self._gates_by_name = gates
        self._hanging = hanging

    def __eq__(self, other):
        return isinstance(other, Around) and self.text == other.text


def filled(around, script):
    """The script in which another one's last line stands where an around has its hole."""
    if script.gates != around.gates:
        raise OtherGates(script)
    many = len(script.lines)
    names = numbered(around.lines, many + 1)
    names[around.hole] = f"x{many}"
    rows = written(script.lines, numbered(script.lines, 1)) + written(around.lines, names)
    return Script("\n".join(["script", *rows]))


def about(around):
    """The script with which an around counts what is in its hole: its lines, read backward."""
    lines = lines_of_last(around.lines)
    hanging = [line for line in lines if line[0] in around._hanging]
    writer = Writer()
    names = writer.write([line for line in lines if line[0] not in around._hanging])
    # Each line that hangs counts with the sum of all that the lines behind it hand on to it.
    handed = {lines[-1][0]: [(UNIT, writer.line("one"))]}
    for line in hanging[::-1]:
        counter = writer.summed(handed[line[0]])
        for operand, factor, name in _handed_on(around, line, counter, names, writer):
            handed.setdefault(operand, []).append((factor, name))
    writer.summed(handed[around.hole])
    return writer.script()


def around_of(script):
    """The around that counts with a script: the script laid on the hole, all gates closed."""
    writer = Writer()
    names = writer.write(script.lines)
    last = writer.together([names[script.lines[-1][0]], HOLE])
    writer.closed(script.gates, last)
    words = ["around", HOLE] + [str(gate) for gate in script.gates]
    return Around("\n".join([" ".join(words), *writer.rows]))


def paired(book, one, other):
    """The sum, over all rows of their gates, of the products of weights and of both worths."""
    if other.gates != one.gates:
        raise OtherGates(other)
    need_fit(book, one)
    need_fit(book, other)
    ones = last_worths(book, one)
    others = last_worths(book, other)
    both = [times(book.by, worth, more) for worth, more in zip(ones, others)]
    return paired_sum(book.by, row_weights(book, len(one.gates)), both)


def _read_around(text):
    """The hole, the lines, a dict of the gates of each of these, and a dict of those that hang."""
    rows = text.split("\n")
    head = _read_head(rows[0].split(" "))
    if head is None:
        raise BadAround(1)
    if len(rows) == 1:
        raise BadAround(2)
    hole, own = head
    gates = {hole: own}
    hanging = {hole: True}
    lines = []
    for number, row in enumerate(rows[1:], start=2):
        line = read_line(row, gates)
        if line is None or not _may_stand(line[1], line[2], hanging):
            raise BadAround(number)
        name, form, parts, own = line
        lines.append((name, form, parts))
        gates[name] = own
        if _how_many_hang(form, parts, hanging) > 0:
            hanging[name] = True
    last = lines[-1][0]
    if gates[last] or last not in hanging:
        raise BadAround(len(rows))
    return hole, tuple(lines), gates, hanging


def _read_head(words):
    """The hole and its gates, or None."""
    if len(words) < 2 or words[0] != "around" or not is_line_name(words[1]):
        return None
    gates = read_gates(words[2:])
    return None if gates is None else (words[1], gates)


def _how_many_hang(form, parts, hanging):
    return len([name for name in operands_of(form, parts) if name in hanging])


def _may_stand(form, parts, hanging):
    """Whether so many operands hang that a line is linear in what the hole is worth."""
    many = _how_many_hang(form, parts, hanging)
    if form == "add":
        return many == 0 or many == len(parts)
    return many < 2


def _handed_on(around, line, counter, names, writer):
    """Triples of an operand that hangs, a factor, and a line: what the operand counts with by this line.

    The line itself counts with counter.
    """
    name, form, parts = line
    if form == "add":
        return [(operand, factor, counter) for factor, operand in parts]
    if form == "close":
        # The same whatever the mark at the gate: a place there, and no roads.
        place = writer.line(f"one {parts[0]}")
        return [(parts[1], UNIT, writer.together([place, counter]))]
    if form == "turn":
        return [(parts[2], UNIT, writer.line(f"turn {parts[0]} {parts[1]} {counter}"))]
    operand, other = parts if parts[0] in around._hanging else parts[::-1]
    own = around._gates_by_name[operand]
    left = [gate for gate in around._gates_by_name[name] if gate not in own]
    found = writer.together([names[other], counter])
    return [(operand, UNIT, writer.closed(left, found))]

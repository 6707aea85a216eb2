"""Moments of a yard: the lines that stand at one time, and what was worked out of them."""

from opengates.forms import lines_of_last, operands_of, written
from opengates.worked import line_worths


class Moment:
    """Lines as a script tells them, and a dict of the gates of each one.

    told has what is worked out already: for each name the gates and the worths. Deeds do not
    change a moment, they make another one; so each deed can be taken back.
    """

    def __init__(self, lines, gates, told):
        self.lines = lines
        self.gates = gates
        self.told = told
        self.names = tuple([line[0] for line in lines])
        self.text = "\n".join(["script"] + written(lines, {name: name for name in self.names}))

    def with_line(self, line, own):
        """The moment with one line more, which has these gates."""
        gates = {name: self.gates[name] for name in self.names}
        gates[line[0]] = own
        return Moment(self.lines + (line,), gates, self._told_but({}))

    def with_other(self, line):
        """The moment with this line, which has the same gates, in the place of the one of its name."""
        lines = tuple([line if its[0] == line[0] else its for its in self.lines])
        changed = {line[0]: True}
        for name, form, parts in lines:
            if any([operand in changed for operand in operands_of(form, parts)]):
                changed[name] = True
        return Moment(lines, self.gates, self._told_but(changed))

    def without(self, name):
        """The moment without the line of this name, which no line uses."""
        lines = tuple([line for line in self.lines if line[0] != name])
        gates = {line[0]: self.gates[line[0]] for line in lines}
        return Moment(lines, gates, self._told_but({name: True}))

    def lines_to(self, name):
        """The line of this name, and all lines ahead of it on which it hangs."""
        return lines_of_last(self.lines[:self.names.index(name) + 1])

    def worked(self, book, name):
        """The tuple of the worths of the line of this name."""
        if name not in self.told:
            for its, form, parts in self.lines_to(name):
                if its not in self.told:
                    worths = line_worths(book, self.gates[its], form, parts, self.told)
                    self.told[its] = (self.gates[its], worths)
        return self.told[name][1]

    def _told_but(self, changed):
        """What is worked out of all lines but those that changed."""
        return {name: self.told[name] for name in self.told if name not in changed}

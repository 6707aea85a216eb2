"""A yard: a script under hands, whose lines are worked out in a book."""

from opengates.errors import BadLine, Later, NoName, NothingToRedo, NothingToUndo, NoTrial, OtherGates, Wanted
from opengates.forms import operands_of, read_form, read_line, written
from opengates.moments import Moment
from opengates.rows import rows_of
from opengates.scripts import Script
from opengates.trials import Trial
from opengates.worked import need_fitting_lines, row_weights
from opengates.worths import paired_sum


class Yard:
    """Lines on which deeds are done, one behind the other.

    moment is what stands now, past what stood ahead of each deed that stands, undone the pairs of
    a deed that was taken back and what stood behind it; deeds are told as in a journal.
    """

    def __init__(self, book):
        self.book = book
        self.innermost = None
        self._stand(Moment((), {}, {}), (), (), ())

    def __contains__(self, value):
        return isinstance(value, str) and value in self.names

    def __eq__(self, other):
        # Their journals are equal just if these are.
        return isinstance(other, Yard) and self.book == other.book and self.deeds == other.deeds

    def line(self, text):
        """Writes one line more."""
        told = read_line(text, self.moment.gates) if _is_row(text) else None
        if told is None:
            raise BadLine(text)
        name, form, parts, gates = told
        need_fitting_lines(self.book, [(name, form, parts)])
        self._do(f"line {text}", self.moment.with_line((name, form, parts), gates))

    def exchange(self, name, text):
        """Writes another form in the place of that of the line of this name."""
        own = self.gates_of(name)
        told = read_form(text.split(" "), self.moment.gates) if _is_row(text) else None
        if told is None:
            raise BadLine(text)
        form, parts, gates = told
        ahead = self.names[:self.names.index(name)]
        for operand in operands_of(form, parts):
            if operand not in ahead:
                raise Later(operand)
        need_fitting_lines(self.book, [(name, form, parts)])
        if gates != own:
            raise OtherGates(gates)
        self._do(f"exchange {name} = {text}", self.moment.with_other((name, form, parts)))

    def drop(self, name):
        """Takes away the line of this name."""
        self._need(name)
        for other, form, parts in self.moment.lines:
            if name in operands_of(form, parts):
                raise Wanted(other)
        self._do(f"drop {name}", self.moment.without(name))

    def gates_of(self, name):
        """The ascending tuple of the gates of the line of this name."""
        self._need(name)
        return self.moment.gates[name]

    def worths_of(self, name):
        """The tuple of the rows of the gates of a line, each with its worth."""
        rows = rows_of(self.book.marks, len(self.gates_of(name)))
        return tuple(zip(rows, self.moment.worked(self.book, name)))

    def closed(self, name):
        """What a line counts when all its gates are closed."""
        weights = row_weights(self.book, len(self.gates_of(name)))
        return paired_sum(self.book.by, weights, self.moment.worked(self.book, name))

    def script(self, name):
        """The script of a line, and of those on which it hangs."""
        self._need(name)
        lines = self.moment.lines_to(name)
        return Script("\n".join(["script"] + written(lines, {line[0]: line[0] for line in lines})))

    def undo(self):
        """Takes the last deed back."""
        if not self.deeds:
            raise NothingToUndo(None)
        undone = self.undone + ((self.deeds[-1], self.moment),)
        self._stand(self.past[-1], self.deeds[:-1], self.past[:-1], undone)

    def redo(self):
        """Does the deed again that was taken back last."""
        if not self.undone:
            raise NothingToRedo(None)
        deed, moment = self.undone[-1]
        self._stand(moment, self.deeds + (deed,), self.past + (self.moment,), self.undone[:-1])

    def trial(self):
        """A block behind which the yard is as it was, unless it is kept."""
        return Trial(self)

    def keep(self):
        """Keeps what was done in the innermost block."""
        block = self.innermost
        if block is None:
            raise NoTrial(None)
        block.kept = True

    def tried(self, look, *, keep=False):
        """What look tells of the yard, called within a block."""
        with self.trial() as held:
            found = look(held)
            if keep is True:
                held.keep()
        return found

    def copy(self):
        """A yard of its own that is alike."""
        found = Yard(self.book)
        found._stand(self.moment, self.deeds, self.past, self.undone)
        return found

    def _need(self, name):
        if name not in self:
            raise NoName(name)

    def _do(self, deed, moment):
        """Makes a deed stand that led to this moment."""
        self._stand(moment, self.deeds + (deed,), self.past + (self.moment,), ())

    def _stand(self, moment, deeds, past, undone):
        self.moment = moment
        self.deeds = deeds
        self.past = past
        self.undone = undone
        self.names = moment.names
        self.text = moment.text
        self.done = len(deeds)


def _is_row(value):
    """Whether a value is a string without line feeds."""
    return isinstance(value, str) and "\n" not in value

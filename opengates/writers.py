"""Scripts that are written line by line."""

from opengates.forms import renamed_parts, write_form
from opengates.scripts import Script
from opengates.worths import UNIT


class Writer:
    """Lines of a script to be, called x1, x2, .. as they are written."""

    def __init__(self):
        self.rows = []
        self._name_by_form = {}

    def line(self, form):
        """Writes NAME = form, and tells the name."""
        name = f"x{len(self.rows) + 1}"
        self.rows.append(f"{name} = {form}")
        self._name_by_form[form] = name
        return name

    def once(self, form):
        """The name of a line of this form, which is written unless it is there."""
        if form in self._name_by_form:
            return self._name_by_form[form]
        return self.line(form)

    def write(self, lines):
        """Writes lines that hang on none but these, and tells the dict of their new names."""
        names = {}
        for name, form, parts in lines:
            names[name] = self.line(write_form(form, renamed_parts(form, parts, names)))
        return names

    def together(self, names):
        """Writes the lines that lay all of these together, one behind the other, and tells the last one's name."""
        found = names[0]
        for name in names[1:]:
            found = self.line(f"{found} * {name}")
        return found

    def summed(self, terms):
        """The name of a line that is the sum of these pairs of a factor and a line."""
        if len(terms) == 1 and terms[0][0] == UNIT:
            return terms[0][1]
        return self.line(write_form("add", terms))

    def closed(self, gates, name):
        """Writes the lines that close these gates of a line, and tells the last one's name."""
        found = name
        for gate in gates:
            found = self.line(f"close {gate} {found}")
        return found

    def script(self):
        """The script of these lines."""
        return Script("\n".join(["script", *self.rows]))

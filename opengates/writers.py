"""Scripts that are written line by line."""

from opengates.scripts import Script


class Writer:
    """Lines of a script to be, called x1, x2, .. as they are written."""

    def __init__(self):
        self.rows = []

    def line(self, form):
        """Writes NAME = form, and tells the name."""
        name = f"x{len(self.rows) + 1}"
        self.rows.append(f"{name} = {form}")
        return name

    def together(self, names):
        """Writes the lines that lay all of these together, one behind the other, and tells the last one's name."""
        found = names[0]
        for name in names[1:]:
            found = self.line(f"{found} * {name}")
        return found

    def closed(self, gates, name):
        """Writes the lines that close these gates of a line, and tells the last one's name."""
        found = name
        for gate in gates:
            found = self.line(f"close {gate} {found}")
        return found

    def script(self):
        """The script of these lines."""
        return Script("\n".join(["script", *self.rows]))

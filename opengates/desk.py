"""A desk: a yard that is asked, and changed, by lines of words."""

from opengates.errors import BadLine, BadRow
from opengates.journals import do_deed, read_journal
from opengates.words import worth_word


class Desk:
    """The yard of a journal, and answers to lines."""

    def __init__(self, text):
        self.yard = read_journal(text)

    def say(self, line):
        """The answer to a line."""
        words = _words(line)
        if words is None:
            raise BadLine(line)
        if do_deed(self.yard, words):
            return "ok"
        if len(words) == 1:
            return self._say_one(words[0], line)
        if words[0] == "worth":
            return self._worth(words[1], tuple(words[2:]))
        if len(words) == 2:
            return self._say_two(words[0], words[1], line)
        raise BadLine(line)

    def _say_one(self, word, line):
        if word == "names":
            return _listed(self.yard.names)
        if word == "undo":
            self.yard.undo()
        elif word == "redo":
            self.yard.redo()
        else:
            raise BadLine(line)
        return "ok"

    def _say_two(self, word, name, line):
        if word == "gates":
            return _listed([str(gate) for gate in self.yard.gates_of(name)])
        if word == "closed":
            return worth_word(self.yard.closed(name))
        if word == "tell":
            return "; ".join(self.yard.script(name).text.split("\n")[1:])
        raise BadLine(line)

    def _worth(self, name, row):
        for its, worth in self.yard.worths_of(name):
            if its == row:
                return worth_word(worth)
        raise BadRow(row)


def _words(line):
    """The words of a line, or None if they are not parted by one blank each."""
    if not isinstance(line, str) or "\n" in line:
        return None
    words = line.split(" ")
    return None if "" in words else words


def _listed(words):
    return " ".join(words) if words else "none"

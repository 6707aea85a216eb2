"""Journals: a yard's book, and the deeds that stand, as a text."""

from opengates.books import Book
from opengates.errors import BadBook, BadJournal, GateError
from opengates.yard import Yard

HEAD = "yard"


def journal(yard):
    """The text of a yard's book, and of its deeds."""
    return "\n".join([yard.book.text, HEAD, *yard.deeds])


def read_journal(text):
    """The yard on which a journal's deeds were done."""
    if not isinstance(text, str):
        raise BadJournal(0)
    rows = text.split("\n")
    if HEAD not in rows:
        raise BadJournal(len(rows) + 1)
    at = rows.index(HEAD)
    yard = Yard(_book("\n".join(rows[:at])))
    for number, row in enumerate(rows[at + 1:], start=at + 2):
        if not _is_done(yard, row):
            raise BadJournal(number)
    return yard


def do_deed(yard, words):
    """Does on a yard the deed of which these are the words, and tells whether they have such a form."""
    if words[0] == "line" and len(words) > 1:
        yard.line(" ".join(words[1:]))
    elif words[0] == "exchange" and len(words) > 3 and words[2] == "=":
        yard.exchange(words[1], " ".join(words[3:]))
    elif words[0] == "drop" and len(words) == 2:
        yard.drop(words[1])
    else:
        return False
    return True


def _book(text):
    try:
        return Book(text)
    except BadBook as wrong:
        raise BadJournal(wrong.value)


def _is_done(yard, row):
    """Whether a line of a journal is a deed, which then is done."""
    try:
        return do_deed(yard, row.split(" "))
    except GateError:
        return False

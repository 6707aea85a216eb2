"""Texts of scripts that any value may be: whether they fit a book, a width and gates."""

from opengates.errors import BadFactor, BadScript, NoKind
from opengates.scripts import Script
from opengates.worked import need_fit


def fitting_script(book, k, gates, value):
    """The script of which a value is the text, or None unless it fits."""
    script = _script(value)
    if script is None or script.width > k or script.gates != gates:
        return None
    return script if _fits(book, script) else None


def is_pair(word, value):
    """Whether a value is a tuple of this word and one thing more."""
    return is_told(word, 2, value)


def is_told(word, many, value):
    """Whether a value is a tuple of so many things, the first of which is this word."""
    return isinstance(value, tuple) and len(value) == many and isinstance(value[0], str) and value[0] == word


def _script(value):
    try:
        return Script(value)
    except BadScript:
        return None


def _fits(book, script):
    try:
        need_fit(book, script)
    except (NoKind, BadFactor):
        return False
    return True

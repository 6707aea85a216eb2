"""The words of texts: integers as Python writes them, names, gates, factors."""

from math import gcd

LETTERS = "abcdefghijklmnopqrstuvwxyz"
FIGURES = "0123456789"
# They begin a text or a form, so an operand of such a name could be taken for a form.
NO_NAMES = ("script", "around", "one", "road", "close", "turn", "add")
MOST_FIGURES = 1000
PART_FIGURES = 64
PART = 10 ** 64


def integer_of(word, most):
    """The integer that Python writes as this word, of at most so many figures, or None."""
    figures = word.removeprefix("-")
    # The length comes first: Python itself refuses to read very long integers.
    if len(figures) > most or not _is_of(figures, FIGURES):
        return None
    if word == "-0" or (figures.startswith("0") and len(figures) > 1):
        return None
    return int(word)


def is_letters(word, most):
    """Whether a word is one to so many letters a to z."""
    return len(word) <= most and _is_of(word, LETTERS)


def is_line_name(word):
    """Whether a word can be the name of a line of a script."""
    letters = word.rstrip(FIGURES)
    return is_letters(letters, 6) and len(word) - len(letters) <= 9 and word not in NO_NAMES


def gate_of(word):
    """The gate that is written as this word, or None."""
    return int(word) if word in ("1", "2", "3", "4") else None


def factor_of(word):
    """The factor that is written as this word, a fraction, or None."""
    before, slash, behind = word.partition("/")
    top = integer_of(before, MOST_FIGURES)
    # Without a slash the bottom is 1; written out, a bottom of 1 is not allowed.
    bottom = integer_of(behind, MOST_FIGURES) if slash else 1
    if top is None or bottom is None or gcd(top, bottom) > 1:
        return None
    if slash and bottom < 2:
        return None
    return (top, bottom)


def worth_word(worth):
    """The word by which a factor of a script, or any worth, is told."""
    top, bottom = worth
    return _written(top) if bottom == 1 else f"{_written(top)}/{_written(bottom)}"


def _is_of(word, signs):
    """Whether a word has signs, and only these."""
    return len(word) > 0 and all([sign in signs for sign in word])


def _written(number):
    """An integer as Python writes it."""
    rest = abs(number)
    parts = []
    # Python itself refuses to write very long integers at once.
    while rest >= PART:
        rest, part = divmod(rest, PART)
        parts.append(str(part).zfill(PART_FIGURES))
    figures = "".join([str(rest), *parts[::-1]])
    return f"-{figures}" if number < 0 else figures

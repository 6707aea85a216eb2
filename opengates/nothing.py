"""What is nothing in every surroundings, and how many numbers matter."""

from opengates.arounds import paired
from opengates.bounds import need_few_rows, need_length, need_width
from opengates.checks import gates_to, is_integer
from opengates.errors import BadScripts, OtherGates, TooWide
from opengates.fitting import fitting_script, is_told
from opengates.partings import go_finer
from opengates.scripts import Script
from opengates.solving import are_apart, combination, kernel_of
from opengates.telling import pure_script
from opengates.weighing import heavy_lots, lot_worths
from opengates.worked import need_fit
from opengates.worths import NOUGHT, are_worths, is_worth, minus, times

MOST_SCRIPTS = 6


def nothing(book, k, script):
    """That a script is nothing, or a script whose pairing with it is not 0."""
    _need_small(book, k)
    _need_scripts(book, k, (script,))
    return _witness("nothing", book, k, (script,))


def shows_nothing(book, k, script, value):
    """Whether a value says so rightly, or has such a script and its pairing."""
    _need_small(book, k)
    _need_scripts(book, k, (script,))
    return _shows_witness("nothing", book, k, (script,), value)


def same_everywhere(book, k, one, other):
    """That two scripts are the same everywhere, or a script whose pairings with them are unlike."""
    _need_two(book, k, one, other)
    return _witness("same", book, k, (one, other))


def shows_same_everywhere(book, k, one, other, value):
    """Whether a value says so rightly, or has such a script and the difference of its pairings."""
    _need_two(book, k, one, other)
    return _shows_witness("same", book, k, (one, other), value)


def matters(book, k, m):
    """How many lots of m marks have a weight, and as many scripts, twice, that part what is seen of them."""
    _need_small(book, k)
    need_length(m, k)
    found = go_finer((book,), k)
    texts = tuple([pure_script(found, lot, gates_to(m)).text for lot, _ in heavy_lots(found, m)])
    # Two unlike ones of these are paired 0, and each one with itself the weight of its lot.
    return (len(texts), texts, texts)


def shows_matters(book, k, m, value):
    """Whether a value is such a number, with such scripts."""
    _need_small(book, k)
    need_length(m, k)
    found = go_finer((book,), k)
    lots = [lot for lot, _ in heavy_lots(found, m)]
    if not isinstance(value, tuple) or len(value) != 3 or not is_integer(value[0]) or value[0] != len(lots):
        return False
    # The table of pairings is the product of both tables on lots, with the weights between them.
    return all([_part_all(found, lots, m, texts) for texts in value[1:]])


def relations(book, k, scripts):
    """A basis of the rows of factors by which the sum of scripts is nothing."""
    _need_several(book, k, scripts)
    return kernel_of(book.by, _heavy_worths(book, k, scripts))


def shows_relations(book, k, scripts, value):
    """Whether a value is such a basis."""
    _need_several(book, k, scripts)
    rows = _heavy_worths(book, k, scripts)
    if not isinstance(value, tuple) or len(value) != len(kernel_of(book.by, rows)):
        return False
    if not all([are_worths(book.by, factors, len(scripts)) for factors in value]):
        return False
    for factors in value:
        if any([worth != NOUGHT for worth in combination(book.by, rows, factors)]):
            return False
    return are_apart(book.by, value)


def _need_small(book, k):
    need_width(k)
    need_few_rows((book,), k)


def _need_scripts(book, k, scripts):
    for script in scripts:
        if script.width > k:
            raise TooWide(script.width)
    for script in scripts:
        need_fit(book, script)


def _need_two(book, k, one, other):
    _need_small(book, k)
    if other.gates != one.gates:
        raise OtherGates(other)
    _need_scripts(book, k, (one, other))


def _need_several(book, k, scripts):
    _need_small(book, k)
    if not isinstance(scripts, tuple) or not 1 <= len(scripts) <= MOST_SCRIPTS:
        raise BadScripts(scripts)
    if not all([isinstance(script, Script) for script in scripts]):
        raise BadScripts(scripts)
    if not all([script.gates == scripts[0].gates for script in scripts]):
        raise BadScripts(scripts)
    _need_scripts(book, k, scripts)


def _witness(word, book, k, scripts):
    """The word if one script less the other, if there is one, is nothing; else what shows that it is not."""
    found = go_finer((book,), k)
    gates = scripts[0].gates
    heavy = heavy_lots(found, len(gates))
    worths = [lot_worths(found, [lot for lot, _ in heavy], script) for script in scripts]
    for at, (lot, weight) in enumerate(heavy):
        worth = _less(book.by, [row[at] for row in worths])
        if worth != NOUGHT:
            return ("paired", pure_script(found, lot, gates).text, times(book.by, weight, worth))
    return (word,)


def _shows_witness(word, book, k, scripts, value):
    if is_told(word, 1, value):
        return _witness(word, book, k, scripts)[0] == word
    if not is_told("paired", 3, value) or not is_worth(book.by, value[2]) or value[2] == NOUGHT:
        return False
    other = fitting_script(book, k, scripts[0].gates, value[1])
    return other is not None and _less(book.by, [paired(book, script, other) for script in scripts]) == value[2]


def _less(by, worths):
    """The one worth that there is, or the first one less the second one."""
    return worths[0] if len(worths) == 1 else minus(by, worths[0], worths[1])


def _part_all(found, lots, m, texts):
    """Whether a value is a tuple of as many texts as lots, of scripts that are apart on these."""
    if not isinstance(texts, tuple) or len(texts) != len(lots):
        return False
    book = found.books[0]
    scripts = [fitting_script(book, found.width, gates_to(m), text) for text in texts]
    if any([script is None for script in scripts]):
        return False
    return are_apart(book.by, [lot_worths(found, lots, script) for script in scripts])


def _heavy_worths(book, k, scripts):
    """For each script what it is worth on the lots whose weight is not 0."""
    found = go_finer((book,), k)
    lots = [lot for lot, _ in heavy_lots(found, len(scripts[0].gates))]
    return [lot_worths(found, lots, script) for script in scripts]

"""Books that count alike."""

from opengates.books import Book
from opengates.bounds import need_few_rows, need_one_sort, need_width
from opengates.errors import BadBooks
from opengates.families import are_together, is_stable_family
from opengates.fitting import fitting_script, is_pair
from opengates.partings import go_finer
from opengates.telling import counting_scripts, unlike_script
from opengates.worked import last_worths

MOST_BOOKS = 5


def alike(one, other, k):
    """A stable family that shows two books alike, or a script of which they have unlike counts."""
    _need_two(one, other, k)
    return _compared(one, other, k)


def shows_alike(one, other, k, value):
    """Whether a value is such a family, or the text of such a script."""
    _need_two(one, other, k)
    if is_pair("alike", value):
        return is_stable_family((one, other), k, value[1]) and are_together(value[1], (0, ()), (1, ()))
    if not is_pair("unlike", value):
        return False
    script = fitting_script(one, k, (), value[1])
    # Both have the same by and kinds, so what fits one fits the other, too.
    return script is not None and last_worths(one, script) != last_worths(other, script)


def least_width(one, other):
    """The first width at which two books do not count alike, with a script that shows it, or None."""
    need_one_sort(one, other)
    for k in range(1, max(len(one.marks), len(other.marks)) + 1):
        need_few_rows((one, other), k)
        word, found = _compared(one, other, k)
        if word == "unlike":
            return (k, found)
    return None


def kinds_of(books, k):
    """The numbers of books in lots that count alike."""
    _need_books(books, k)
    return _kinds(go_finer(books, k))


def parted(books, k):
    """Scripts by which books count unlike that are in unlike lots."""
    _need_books(books, k)
    return tuple([script.text for script in counting_scripts(go_finer(books, k))])


def shows_parted(books, k, value):
    """Whether a value is a tuple of the texts of such scripts."""
    _need_books(books, k)
    kinds = _kinds(go_finer(books, k))
    if not isinstance(value, tuple) or len(value) >= len(kinds):
        return False
    scripts = [fitting_script(books[0], k, (), text) for text in value]
    if any([script is None for script in scripts]):
        return False
    # Books of one lot have the same counts, so one book of each stands for all.
    seen = {}
    for lot in kinds:
        seen[tuple([last_worths(books[lot[0]], script)[0] for script in scripts])] = True
    return len(seen) == len(kinds)


def _need_two(one, other, k):
    need_one_sort(one, other)
    need_width(k)
    need_few_rows((one, other), k)


def _need_books(books, k):
    if not isinstance(books, tuple) or not 2 <= len(books) <= MOST_BOOKS:
        raise BadBooks(books)
    if not all([isinstance(book, Book) for book in books]):
        raise BadBooks(books)
    for book in books:
        need_one_sort(books[0], book)
    need_width(k)
    need_few_rows(books, k)


def _compared(one, other, k):
    found = go_finer((one, other), k)
    if found.last[0, ()] == found.last[1, ()]:
        return ("alike", found.family())
    return ("unlike", unlike_script(found, 0, 1).text)


def _kinds(found):
    """The numbers of the books whose rows without marks are in one lot."""
    lots = {}
    for at in range(len(found.books)):
        lots.setdefault(found.last[at, ()], []).append(at)
    return tuple([tuple(lot) for lot in lots.values()])

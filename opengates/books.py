"""Books: what marks and roads are worth."""

from opengates.bounds import need_one_sort
from opengates.checks import is_by
from opengates.errors import BadBook, BadNames, NoKind, NoMark, NotAbove, TooGreat, TooMany
from opengates.words import integer_of, is_letters

GREATEST = 10 ** 12
MOST_MARKS = 4
MOST_KINDS = 3
NEW_MARKS = ("a", "b", "c", "d")


class Book:
    """A text that tells marks with their weights, and kinds of roads with their worths."""

    def __init__(self, text):
        if not isinstance(text, str):
            raise BadBook(0)
        by, weights, worths = _read_book(text)
        self.text = text
        self.by = by
        self.marks = tuple(weights)
        self.kinds = tuple(worths)
        self._weight_by_mark = weights
        self._worths_by_kind = worths

    def __len__(self):
        return len(self.marks)

    def __contains__(self, value):
        return isinstance(value, str) and value in self.marks

    def __eq__(self, other):
        return isinstance(other, Book) and self.text == other.text

    def weight(self, mark):
        """The weight of a mark."""
        if mark not in self:
            raise NoMark(mark)
        return self._weight_by_mark[mark]

    def worth(self, kind, one, other):
        """What a road of this kind is worth from the mark one to the mark other."""
        if not isinstance(kind, str) or kind not in self.kinds:
            raise NoKind(kind)
        if one not in self:
            raise NoMark(one)
        if other not in self:
            raise NoMark(other)
        at = self.marks.index(one) * len(self.marks) + self.marks.index(other)
        return self._worths_by_kind[kind][at]


def renamings(one, other):
    """All tuples of other's marks that can stand for one's marks, ascending."""
    need_one_sort(one, other)
    if len(one.marks) != len(other.marks):
        return ()
    found = [()]
    for _ in one.marks:
        longer = [(*names, name) for names in found for name in other.marks if name not in names]
        found = [names for names in longer if _last_agrees(one, other, names)]
    return tuple(sorted(found))


def renamed(book, names):
    """The book whose marks have these names."""
    if not _are_names(names, len(book.marks)):
        raise BadNames(names)
    weights = [book.weight(mark) for mark in book.marks]
    return _book_of(book.by, names, weights, _table(book, book.marks))


def twins(book):
    """All lots of marks that are worth the same beside each mark."""
    lots = {}
    for mark in book.marks:
        lots.setdefault(_sight(book, mark), []).append(mark)
    return tuple([tuple(lot) for lot in lots.values()])


def melted(book):
    """The book with one mark for each lot of twins."""
    for mark in book.marks:
        if book.by > 0 or book.weight(mark) <= 0:
            raise NotAbove(mark)
    lots = twins(book)
    weights = [sum([book.weight(mark) for mark in lot]) for lot in lots]
    _need_small(weights)
    firsts = [lot[0] for lot in lots]
    return _book_of(book.by, firsts, weights, _table(book, firsts))


def multiplied(one, other):
    """The book of all pairs of a mark of one and a mark of other."""
    need_one_sort(one, other)
    pairs = [(mark, its) for mark in one.marks for its in other.marks]
    if len(pairs) > MOST_MARKS:
        raise TooMany(len(pairs))
    weights = [_reduced(one.by, one.weight(mark) * other.weight(its)) for mark, its in pairs]
    _need_small(weights)
    worths = {}
    for kind in one.kinds:
        worths[kind] = [
            _reduced(one.by, one.worth(kind, mark, to) * other.worth(kind, its, its_to))
            for mark, its in pairs
            for to, its_to in pairs
        ]
        _need_small(worths[kind])
    return _book_of(one.by, NEW_MARKS, weights, worths)


def joined(one, other):
    """The book with the marks of both, worth nothing from one's to other's."""
    need_one_sort(one, other)
    many = len(one.marks) + len(other.marks)
    if many > MOST_MARKS:
        raise TooMany(many)
    weights = [one.weight(mark) for mark in one.marks] + [other.weight(mark) for mark in other.marks]
    worths = {}
    for kind in one.kinds:
        worths[kind] = _joined_worths(kind, one, other)
    return _book_of(one.by, NEW_MARKS, weights, worths)


def _read_book(text):
    """By, a dict of the weights of marks, and a dict of the worths of kinds."""
    rows = text.split("\n")
    by = _read_by(rows[0].split(" "))
    if by is None:
        raise BadBook(1)
    weights = {}
    worths = {}
    for number, row in enumerate(rows[1:], start=2):
        words = row.split(" ")
        if not worths and _is_mark(words, by, weights):
            weights[words[1]] = int(words[2])
        elif weights and _is_kind(words, by, worths, len(weights)):
            worths[words[1]] = tuple([int(word) for word in words[2:]])
        else:
            raise BadBook(number)
    if not worths:
        raise BadBook(len(rows) + 1)
    return by, weights, worths


def _read_by(words):
    if len(words) != 2 or words[0] != "book":
        return None
    by = integer_of(words[1], 2)
    return by if is_by(by) else None


def _is_mark(words, by, weights):
    """Whether these words are a line of one mark more."""
    if len(words) != 3 or words[0] != "mark" or len(weights) == MOST_MARKS:
        return False
    if not is_letters(words[1], 4) or words[1] in weights:
        return False
    return words[2] != "0" and _is_number(words[2], by)


def _is_kind(words, by, worths, marks):
    """Whether these words are a line of one kind more, beside so many marks."""
    if len(words) != 2 + marks * marks or words[0] != "kind" or len(worths) == MOST_KINDS:
        return False
    if not is_letters(words[1], 4) or words[1] in worths:
        return False
    return all([_is_number(word, by) for word in words[2:]])


def _is_number(word, by):
    """Whether a word is a number that a book of this by can hold."""
    number = integer_of(word, 13)
    if number is None:
        return False
    return 0 <= number < by if by > 0 else abs(number) <= GREATEST


def _need_small(numbers):
    for number in numbers:
        if abs(number) > GREATEST:
            raise TooGreat(number)


def _last_agrees(one, other, names):
    """Whether the last of these names fits one's mark at its place, beside all marks ahead of it."""
    name = names[-1]
    mark = one.marks[len(names) - 1]
    if one.weight(mark) != other.weight(name):
        return False
    for kind in one.kinds:
        for ahead, its in zip(one.marks, names):
            if one.worth(kind, mark, ahead) != other.worth(kind, name, its):
                return False
            if one.worth(kind, ahead, mark) != other.worth(kind, its, name):
                return False
    return True


def _are_names(value, many):
    """Whether a value is a tuple of so many unlike names."""
    if not isinstance(value, tuple) or len(value) != many:
        return False
    if not all([isinstance(name, str) and is_letters(name, 4) for name in value]):
        return False
    return len(set(value)) == many


def _sight(book, mark):
    """What all roads from and to a mark are worth: equal for twins alone."""
    there = [book.worth(kind, mark, to) for kind in book.kinds for to in book.marks]
    back = [book.worth(kind, to, mark) for kind in book.kinds for to in book.marks]
    return tuple(there + back)


def _table(book, marks):
    """A dict of the worths of each kind between some marks of a book."""
    worths = {}
    for kind in book.kinds:
        worths[kind] = [book.worth(kind, mark, to) for mark in marks for to in marks]
    return worths


def _joined_worths(kind, one, other):
    worths = []
    for mark in one.marks:
        worths.extend([one.worth(kind, mark, to) for to in one.marks] + [0] * len(other.marks))
    for mark in other.marks:
        worths.extend([0] * len(one.marks) + [other.worth(kind, mark, to) for to in other.marks])
    return worths


def _reduced(by, number):
    """A number, or its remainder by a prime."""
    return number % by if by > 0 else number


def _book_of(by, names, weights, worths):
    """The book of the first of these names, one for each weight, and of a dict of worths."""
    rows = [f"book {by}"]
    for name, weight in zip(names, weights):
        rows.append(f"mark {name} {weight}")
    for kind, numbers in worths.items():
        words = [str(number) for number in numbers]
        rows.append(" ".join(["kind", kind, *words]))
    return Book("\n".join(rows))

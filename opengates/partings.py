"""The lots of books, found by going finer, with how each lot came about.

A test tells something of each row, and what it tells is the same at all rows that no script tells
apart. So rows of one lot at which it tells unlike things are parted. A test is one of
("road", kind, i, j), the worth from the mark at i to that at j; ("turn", i, j), the lot of the
row with these marks exchanged; ("less",), the lot of the row without its last mark;
("close", lot), the sum of the weights of the marks behind it that lead to this lot.
"""

from opengates.families import closing_sums, told_rows, turned_row


class Lot:
    """Rows of one length, and how they were parted from others.

    parent is the number of the lot that was parted, or None; test what parted it, value what the
    test told of these rows, others what it told of the parent's other rows.
    """

    def __init__(self, rows, parent, test, value, others):
        self.rows = rows
        self.parent = parent
        self.test = test
        self.value = value
        self.others = others


class Parting:
    """All lots that there were on the way, by their numbers, and the last one of each (number, row).

    What a lot came about by are lots with lesser numbers.
    """

    def __init__(self, books, width):
        self.books = books
        self.width = width
        self.ever = []
        self.last = {}

    def begin(self, rows, parent, test, value, others):
        """Puts rows into a lot of their own."""
        for told in rows:
            self.last[told] = len(self.ever)
        self.ever.append(Lot(rows, parent, test, value, others))

    def now(self, length):
        """The numbers of the lots of this length, by their first rows."""
        found = {}
        for told in told_rows(self.books, length):
            found[self.last[told]] = True
        return list(found)

    def part(self, length, test):
        """Parts all lots of this length by a test."""
        # What is told hangs on lots, so all is told before any of these is parted.
        told = [(lot, self._parts(lot, test)) for lot in self.now(length)]
        for lot, parts in told:
            if len(parts) > 1:
                for value, rows in parts.items():
                    others = [other for other in parts if other != value]
                    self.begin(rows, lot, test, value, others)

    def family(self):
        """The family of the lots."""
        return tuple([self._lots(length) for length in range(self.width + 1)])

    def _lots(self, length):
        return tuple([tuple(self.ever[lot].rows) for lot in self.now(length)])

    def _parts(self, lot, test):
        """The rows of a lot by what a test tells of them."""
        parts = {}
        for number, row in self.ever[lot].rows:
            parts.setdefault(self._told(test, number, row), []).append((number, row))
        return parts

    def _told(self, test, number, row):
        book = self.books[number]
        if test[0] == "road":
            return book.worth(test[1], row[test[2]], row[test[3]])
        if test[0] == "turn":
            return self.last[number, turned_row(row, test[1], test[2])]
        if test[0] == "less":
            return self.last[number, row[:-1]]
        return closing_sums(book, number, row, self.last).get(test[1], 0)


def go_finer(books, width):
    """The coarsest stable family of some books of one sort, with how it came about."""
    found = Parting(books, width)
    for length in range(width + 1):
        found.begin(told_rows(books, length), None, None, None, [])
        for test in _road_tests(books[0].kinds, length):
            found.part(length, test)
    before = 0
    # As soon as no test parts anything, nothing does any more.
    while before < len(found.ever):
        before = len(found.ever)
        for length in range(width + 1):
            for test in _lot_tests(found, length):
                found.part(length, test)
    return found


def _road_tests(kinds, length):
    places = range(length)
    return [("road", kind, one, other) for kind in kinds for one in places for other in places]


def _lot_tests(found, length):
    places = range(length)
    tests = [("turn", one, other) for one in places for other in places if one < other]
    if length > 0:
        tests.append(("less",))
    if length < found.width:
        tests.extend([("close", lot) for lot in found.now(length + 1)])
    return tests

"""Scripts that tell lots apart: each test by which a lot came about is asked by lines."""

from opengates.checks import gates_to
from opengates.scaling import scaled_term
from opengates.worths import NOUGHT, UNIT, minus, over, times, worth_of
from opengates.writers import Writer


def pure_script(parting, lot, gates):
    """The script with these gates that is worth 1 on a lot, 0 at all other rows of its length."""
    writer = Writer()
    name = _pure_names(writer, parting, [lot])[lot]
    # The last gate first: none goes to one at which something still is.
    for at in reversed(range(len(gates))):
        if gates[at] != at + 1:
            name = writer.line(f"turn {at + 1} {gates[at]} {name}")
    return writer.script()


def worths_script(parting, length, worths):
    """The script that is worth at each row what a dict tells of it, which is the same on lots of one book."""
    lots = [lot for lot in _widest(parting, length, worths) if _first_worth(parting, lot, worths) != NOUGHT]
    writer = Writer()
    if lots:
        names = _pure_names(writer, parting, lots)
        writer.summed([scaled_term(writer, _first_worth(parting, lot, worths), names[lot]) for lot in lots])
    else:
        writer.summed([(NOUGHT, writer.line(_one(gates_to(length))))])
    return writer.script()


def parting_script(parting, one, other):
    """The script that is worth 1 at one and 0 at other: two (number, row) of one length, in unlike lots."""
    lot, its = _parts_of_one(parting, one, other)
    writer = Writer()
    names = _pure_names(writer, parting, _uses(lot))
    place = writer.once(_one(gates_to(len(one[1]))))
    writer.together([place] + _test_lines(writer, parting, lot, names, [its.value]))
    return writer.script()


def unlike_script(parting, one, other):
    """The script without gates that counts unlike by two books, told by their numbers, of unlike lots."""
    return _counting_script(parting, _parts_of_one(parting, (one, ()), (other, ()))[0])


def counting_scripts(parting):
    """Scripts without gates, for each lot that was parted one of unlike worths at its parts."""
    found = {}
    for lot in parting.ever:
        if lot.test is not None and _length(lot) == 0 and lot.parent not in found:
            found[lot.parent] = _counting_script(parting, lot)
    return list(found.values())


def _counting_script(parting, lot):
    """The script that asks what parted a lot of rows without marks from others."""
    writer = Writer()
    _asked(writer, lot, _pure_names(writer, parting, _uses(lot)))
    return writer.script()


def _widest(parting, length, worths):
    """The widest lots, also such as were parted, on which the worths are the same."""
    same = {}
    found = []
    for number, lot in enumerate(parting.ever):
        if _length(lot) == length:
            first = _first_worth(parting, number, worths)
            same[number] = all([worths[row] == first for _, row in lot.rows])
            if same[number] and not same.get(lot.parent, False):
                found.append(number)
    return found


def _first_worth(parting, lot, worths):
    return worths[parting.ever[lot].rows[0][1]]


def _parts_of_one(parting, one, other):
    """The lots into which the last lot was parted that had both rows, of one and of other."""
    ones = _ways(parting, parting.last[one])
    others = _ways(parting, parting.last[other])
    at = 0
    while ones[at] == others[at]:
        at = at + 1
    return parting.ever[ones[at]], parting.ever[others[at]]


def _ways(parting, lot):
    """The numbers of all lots of which a lot is a part, the widest ahead, and its own."""
    found = []
    at = lot
    while at is not None:
        found.append(at)
        at = parting.ever[at].parent
    return found[::-1]


def _uses(lot):
    """The numbers of the lots of which the test asks that parted a lot from others."""
    if lot.test[0] == "road":
        return []
    return [lot.test[1]] if lot.test[0] == "close" else [lot.value]


def _pure_names(writer, parting, wanted):
    """Writes lines that are worth 1 on a lot, 0 elsewhere, for these and what they came about by.

    Tells a dict of their names.
    """
    needed = {lot: True for lot in wanted}
    # All that a lot came about by has lesser numbers.
    for number in reversed(range(len(parting.ever))):
        lot = parting.ever[number]
        if number in needed and lot.test is not None:
            for its in [lot.parent] + _uses(lot):
                needed[its] = True
    names = {}
    for number in sorted(needed):
        lot = parting.ever[number]
        if lot.test is None:
            names[number] = writer.once(_one(gates_to(_length(lot))))
        else:
            tests = _test_lines(writer, parting, lot, names, lot.others)
            names[number] = writer.together([names[lot.parent]] + tests)
    return names


def _test_lines(writer, parting, lot, names, others):
    """Names of lines that are worth 1 at a lot, and of which for each of the other values one is 0 at its part."""
    asked = _asked(writer, lot, names)
    if lot.test[0] == "turn" or lot.test[0] == "less":
        return [asked]
    by = parting.books[0].by
    place = _one(sorted(set([lot.test[2] + 1, lot.test[3] + 1])) if lot.test[0] == "road" else gates_to(_length(lot)))
    found = []
    for other in others:
        part = over(by, UNIT, worth_of(by, lot.value - other, 1))
        less = minus(by, NOUGHT, times(by, part, worth_of(by, other, 1)))
        terms = [(part, asked)]
        if less != NOUGHT:
            terms.append((less, writer.once(place)))
        found.append(writer.summed(terms))
    return found


def _asked(writer, lot, names):
    """The name of a line that tells what the test tells that parted a lot from others.

    By turn and less it is 1 where this is the lot's own value, and 0 elsewhere.
    """
    test = lot.test
    if test[0] == "road":
        return writer.once(f"road {test[1]} {test[2] + 1} {test[3] + 1}")
    if test[0] == "turn":
        return writer.once(f"turn {test[1] + 1} {test[2] + 1} {names[lot.value]}")
    if test[0] == "close":
        return writer.once(f"close {_length(lot) + 1} {names[test[1]]}")
    return names[lot.value]


def _one(gates):
    """The form of places alone at these gates."""
    return " ".join(["one"] + [str(gate) for gate in gates])


def _length(lot):
    return len(lot.rows[0][1])

"""Lots, families and scripts worked out once more, in another and slower way, to compare with."""

import itertools
import re
from fractions import Fraction

from tests.drawing import as_worth
from tests.readers import script_fault


def rows_again(book, length):
    return list(itertools.product(book.marks, repeat=length))


def numbered_rows(books, length):
    return [(number, row) for number, book in enumerate(books) for row in rows_again(book, length)]


def how_many_rows(books, k):
    return sum(len(book) ** length for book in books for length in range(k + 1))


def remainder(by, number):
    """A Fraction, or by a prime the integer from 0 on that it stands for."""
    return Fraction(number) if by == 0 else as_worth(by, number)[0]


def worths_again(book, text):
    """The worths of what a script tells, at all rows of its gates, as worths; each line is a dict by its marks."""
    told = {}
    for line in text.split("\n")[1:]:
        name, _, *words = line.split(" ")
        told[name] = one_line(book, words, told)
    gates, worths = told[name]
    return tuple(as_worth(book.by, worths[row]) for row in rows_again(book, len(gates)))


def one_line(book, words, told):
    """The gates and a dict of the worths by rows of one line; words are those behind NAME =."""
    by = book.by
    if words[0] == "one":
        gates = [int(word) for word in words[1:]]
        return gates, {row: Fraction(1) for row in rows_again(book, len(gates))}
    if words[0] == "road":
        ends = [int(words[2]), int(words[3])]
        gates = sorted(set(ends))
        return gates, {row: Fraction(book.worth(words[1], *(row[gates.index(end)] for end in ends))) for row in rows_again(book, len(gates))}
    if words[0] == "close":
        gates, worths = told[words[2]]
        at = gates.index(int(words[1]))
        found = {}
        for row, worth in worths.items():
            left = row[:at] + row[at + 1:]
            found[left] = remainder(by, found.get(left, 0) + book.weight(row[at]) * worth)
        return gates[:at] + gates[at + 1:], found
    if words[0] == "turn":
        turned = {int(words[1]): int(words[2]), int(words[2]): int(words[1])}
        gates, worths = told[words[3]]
        own = sorted(turned.get(gate, gate) for gate in gates)
        return own, {tuple(dict(zip([turned.get(gate, gate) for gate in gates], row))[gate] for gate in own): worth
                     for row, worth in worths.items()}
    if words[0] == "add":
        parts = [(Fraction(factor), told[name]) for factor, name in zip(words[1::2], words[2::2])]
        if by:
            parts = [(as_worth(by, factor)[0], its) for factor, its in parts]
        return parts[0][1][0], {row: remainder(by, sum(factor * its[1][row] for factor, its in parts)) for row in parts[0][1][1]}
    (one, ones), (other, others) = told[words[0]], told[words[2]]
    gates = sorted(set(one) | set(other))
    found = {}
    for row in rows_again(book, len(gates)):
        marks = dict(zip(gates, row))
        found[row] = remainder(by, ones[tuple(marks[gate] for gate in one)] * others[tuple(marks[gate] for gate in other)])
    return gates, found


def gates_again(text):
    """The gates of each line of a text that is a script, by names."""
    told = {}
    for line in text.split("\n")[1:]:
        name, _, *words = line.split(" ")
        if words[0] == "one":
            told[name] = {int(word) for word in words[1:]}
        elif words[0] == "road":
            told[name] = {int(words[2]), int(words[3])}
        elif words[0] == "close":
            told[name] = told[words[2]] - {int(words[1])}
        elif words[0] == "turn":
            turned = {int(words[1]): int(words[2]), int(words[2]): int(words[1])}
            told[name] = {turned.get(gate, gate) for gate in told[words[3]]}
        elif words[0] == "add":
            told[name] = told[words[2]]
        else:
            told[name] = told[words[0]] | told[words[2]]
    return told


def fits_again(book, k, gates, value):
    """Whether a value is the text of a script at most so wide, with these gates, kinds and factors fitting the book."""
    if type(value) is not str or script_fault(value) is not None:
        return False
    told = gates_again(value)
    if max(len(own) for own in told.values()) > k or tuple(sorted(list(told.values())[-1])) != tuple(gates):
        return False
    if any(kind not in book.kinds for kind in re.findall(r" = road ([a-z]+) ", value)):
        return False
    bottoms = [int(word.partition("/")[2]) for line in value.split("\n") if " = add " in line for word in line.split(" ") if "/" in word]
    return not (book.by and any(bottom % book.by == 0 for bottom in bottoms))


def lots_again(books, k):
    """The coarsest stable family: pairs that are unlike are found, and pairs that lead to them, until none is new."""
    found = {}
    for length in range(k + 1):
        for told in numbered_rows(books, length):
            number, row = told
            book = books[number]
            found[told] = (length, tuple(book.worth(kind, one, other) for kind in book.kinds for one in row for other in row))
    while True:
        finer = {told: (found[told], moves_again(books, k, found, told)) for told in found}
        names = {}
        for told in finer:
            names.setdefault(finer[told], len(names))
        if len(names) == len(set(found.values())):
            break
        found = {told: names[finer[told]] for told in finer}
    family = []
    for length in range(k + 1):
        lots = {}
        for told in numbered_rows(books, length):
            lots.setdefault(found[told], []).append(told)
        family.append(tuple(tuple(lot) for lot in lots.values()))
    return tuple(family)


def moves_again(books, k, found, told):
    number, row = told
    book = books[number]
    turned = []
    for one, other in itertools.combinations(range(len(row)), 2):
        marks = list(row)
        marks[one], marks[other] = marks[other], marks[one]
        turned.append(found[number, tuple(marks)])
    sums = {}
    if len(row) < k:
        for mark in book.marks:
            lot = found[number, row + (mark,)]
            sums[lot] = remainder(book.by, sums.get(lot, 0) + book.weight(mark))
    return (tuple(turned), found[number, row[:-1]] if row else None, frozenset((lot, total) for lot, total in sums.items() if total))


def is_family_again(books, k, value):
    """Whether a value is a family: each row of each length is in just one lot."""
    if type(value) is not tuple or len(value) != k + 1:
        return False
    for length, part in enumerate(value):
        if type(part) is not tuple or any(type(lot) is not tuple or not lot for lot in part):
            return False
        told = [its for lot in part for its in lot]
        for its in told:
            if type(its) is not tuple or len(its) != 2 or type(its[0]) is not int or type(its[1]) is not tuple:
                return False
        if sorted(map(repr, told)) != sorted(map(repr, numbered_rows(books, length))):
            return False
    return True


def is_stable_again(books, k, family):
    """Whether a family is stable, pair by pair, word for word as the document tells it."""
    lot_of = {told: (length, at) for length, part in enumerate(family) for at, lot in enumerate(part) for told in lot}
    for length, part in enumerate(family):
        for lot in part:
            for one, other in itertools.combinations(lot, 2):
                if not is_pair_stable(books, k, family, lot_of, length, one, other):
                    return False
    return True


def is_pair_stable(books, k, family, lot_of, length, one, other):
    (number, t), (its, u) = one, other
    book, more = books[number], books[its]
    for i in range(length):
        for j in range(length):
            if any(book.worth(kind, t[i], t[j]) != more.worth(kind, u[i], u[j]) for kind in book.kinds):
                return False
            t_turned, u_turned = list(t), list(u)
            t_turned[i], t_turned[j] = t[j], t[i]
            u_turned[i], u_turned[j] = u[j], u[i]
            if lot_of[number, tuple(t_turned)] != lot_of[its, tuple(u_turned)]:
                return False
    if length and lot_of[number, t[:-1]] != lot_of[its, u[:-1]]:
        return False
    if length < k:
        for lot in family[length + 1]:
            one_sum = sum(book.weight(x) for x in book.marks if (number, t + (x,)) in lot)
            other_sum = sum(more.weight(x) for x in more.marks if (its, u + (x,)) in lot)
            if remainder(book.by, one_sum - other_sum) != 0:
                return False
    return True


def pairing_again(book, ones, others, length):
    """The sum over all rows of the products of weights and of both worths."""
    total = Fraction(0)
    for row, one, other in zip(rows_again(book, length), ones, others):
        weight = 1
        for mark in row:
            weight *= book.weight(mark)
        total += weight * Fraction(*one) * Fraction(*other)
    return as_worth(book.by, total)


def rank_again(by, rows):
    """How many rows there are of which none is a sum of multiples of the others."""
    left = [[remainder(by, Fraction(*worth)) for worth in row] for row in rows]
    many = 0
    for place in range(len(rows[0]) if rows else 0):
        lead = next((row for row in left if row[place]), None)
        if lead is None:
            continue
        many += 1
        left.remove(lead)
        part = pow(lead[place], -1, by) if by else 1 / lead[place]
        left = [[remainder(by, worth - row[place] * part * its) for worth, its in zip(row, lead)] for row in left]
    return many


def near_texts(text):
    """Texts near that of a script: a line out, twice, at another place, or otherwise; too wide; of other gates."""
    lines = text.split("\n")
    found = ["", "script", text + "\n", "\n" + text, text + " ", text.replace("script", "Script", 1), text.replace(" = ", " =", 1)]
    for at in range(len(lines)):
        found.append("\n".join(lines[:at] + lines[at + 1:]))
        found.append("\n".join(lines[:at + 1] + lines[at:]))
        found.append("\n".join(lines[:at] + lines[at:at + 2][::-1] + lines[at + 2:]))
    last = lines[-1].split(" ")[0]
    spare = "\n".join(lines + [f"zz1 = one 1 2 3 4\nzz2 = close 4 zz1\nzz3 = close 3 zz2\nzz4 = close 2 zz3\nzz5 = close 1 zz4"])
    found += [spare, spare + f"\nzz6 = {last} * zz5", spare + f"\nzz7 = one\nzz6 = {last} * zz7"]
    for form in ("add 1 {0}", "add 2 {0}", "add 1/2 {0}", "add 0 {0}", "add 1/97 {0}", "add 6/5 {0} -1/5 {0}", "add 1/3 {0} 2/3 {0}",
                 "add -1 {0}", "{0} * {0}", "close 1 {0}", "close 2 {0}", "turn 1 2 {0}", "turn 1 4 {0}", "add 98 {0}", "add 4 {0}"):
        found.append(text + "\nzz1 = " + form.format(last))
    for form in ("one 1", "one 1 2", "one", "road k 1 1", "road nope 1 2", "road zz 1 1", "road l 2 1", "one 1 2 3"):
        found.append(text + f"\nzz1 = {form}")
        found.append(text + f"\nzz1 = {form}\nzz2 = {last} * zz1")
        found.append(f"script\nzz1 = {form}\n" + "\n".join(lines[1:]))
    for at, line in enumerate(lines[1:], 1):
        for word, other in ((" 1 ", " 2 "), (" 1 ", " 1/2 "), (" -1 ", " 1 "), (" 2 ", " 1 "), ("close 2", "close 1"), (" k ", " l "),
                            (" k ", " zz "), (" 1 ", " 1/5 "), ("*", "+"), (" 1 ", " 01 "), (" 1", " 3")):
            if word in line + " ":
                found.append("\n".join(lines[:at] + [(line + " ").replace(word, other, 1).rstrip(" ")] + lines[at + 1:]))
    return found

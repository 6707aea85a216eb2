"""Books, scripts and arounds drawn by chance, and a slow second way to work scripts out."""

import itertools
from fractions import Fraction

from opengates.arounds import Around
from opengates.books import Book
from opengates.scripts import Script

KINDS = ("k", "l")
BYS = (0, 0, 0, 2, 3, 5, 7, 97)
FACTORS = ("1", "-1", "0", "2", "-3", "1/11", "-2/13", "5/11")


def draw_book(chance, by=None, marks=None, above=False, kinds=KINDS):
    """A book with small numbers; if above, by 0 and with all weights above 0."""
    by = 0 if above else chance.choice(BYS) if by is None else by
    names = chance.sample(["a", "b", "k", "ab", "zzzz", "q"], marks or chance.randint(1, 4))
    weights = [1, 2, 3] if above else [1, 2, -1, -3] if by == 0 else range(1, by)
    worths = [0, 1, -1, 2, 3, -5] if by == 0 else range(by)
    rows = [f"book {by}"] + [f"mark {name} {chance.choice(weights)}" for name in names]
    for kind in kinds:
        rows.append(" ".join(["kind", kind] + [str(chance.choice(worths)) for _ in range(len(names) ** 2)]))
    return Book("\n".join(rows))


class Lines:
    """Lines that are drawn one by one; for each the gates, how many places, how many nets, and whether it hangs."""

    def __init__(self, chance, most_places, most_nets, plain, gates):
        self.chance = chance
        self.most_places = most_places
        self.most_nets = most_nets
        self.plain = plain
        self.gates = gates
        self.told = {}
        self.rows = []
        self.names = [f"{word}{at}" for word in ("a", "x", "road") for at in range(30)] + ["b", "c", "x01", "one1"]
        chance.shuffle(self.names)

    def free_name(self):
        return next(name for name in self.names if name not in self.told)

    def write(self, form, told):
        name = self.free_name()
        self.rows.append(f"{name} = {form}")
        self.told[name] = told
        return name

    def operand(self, hanging=None):
        """Any line, rather one that nothing uses, rather a late one; none at first."""
        names = [name for name in self.told if hanging is None or self.told[name][3] == hanging] or list(self.told)
        told = "\n".join(self.rows).split()
        unused = [name for name in names if told.count(name) < 2]
        names = unused if unused and self.chance.random() < 0.6 else names
        return self.chance.choice(names[-3:] if self.chance.random() < 0.7 else names) if names else None

    def draw(self):
        """One line more, if what is drawn can stand."""
        chance = self.chance
        one = self.operand(hanging=True if chance.random() < 0.5 else None)
        if one is not None and chance.random() < 0.65:
            return self.draw_on(chance.choice(["*", "*", "*", "close", "close", "turn", "add", "add"]), one)
        if chance.random() < 0.25:
            gates = sorted(chance.sample(self.gates, chance.randint(0, min(2, len(self.gates)))))
            return self.write(" ".join(["one"] + [str(gate) for gate in gates]), (gates, len(gates), 1, False))
        start, end = chance.choice(self.gates), chance.choice(self.gates)
        gates = sorted({start, end})
        return self.write(f"road {chance.choice(KINDS)} {start} {end}", (gates, len(gates), 1, False))

    def draw_on(self, form, one):
        chance = self.chance
        gates, places, nets, hangs = self.told[one]
        if form == "*":
            other = self.operand()
            its, more, many, others = self.told[other]
            both = sorted(set(gates) | set(its))
            places += more + len(both) - len(gates) - len(its)
            if hangs and others or places > self.most_places or nets * many > self.most_nets:
                return None
            return self.write(f"{one} * {other}", (both, places, nets * many, hangs or others))
        if form == "close":
            if not gates:
                return None
            gate = chance.choice(gates)
            return self.write(f"close {gate} {one}", ([left for left in gates if left != gate], places, nets, hangs))
        if form == "turn":
            pair = chance.sample(self.gates, 2) if len(self.gates) > 1 else []
            if not set(pair) & set(gates):
                return None
            turned = dict([pair, pair[::-1]])
            own = sorted(turned.get(gate, gate) for gate in gates)
            return self.write(f"turn {pair[0]} {pair[1]} {one}", (own, places, nets, hangs))
        likes = [name for name in self.told if self.told[name][0] == gates and self.told[name][3] == hangs]
        names = [one] + [chance.choice(likes) for _ in range(chance.randint(0, 2))]
        many = sum(self.told[name][2] for name in names)
        if self.plain or many > self.most_nets:
            return None
        most = max(self.told[name][1] for name in names)
        return self.write(" ".join(["add"] + [f"{chance.choice(FACTORS)} {name}" for name in names]), (gates, most, many, hangs))


def draw_script(chance, gates=None, plain=False, places=5, nets=6, lines=9, among=(1, 2, 3, 4)):
    """A script; it has these gates, if any are told, and none but those among which lines are drawn."""
    drawn = Lines(chance, places, nets, plain, list(among))
    while len(drawn.rows) < lines or lines > 2 and drawn.rows[-1].split(" ")[2] in ("one", "road"):
        drawn.draw()
    if gates is not None:
        last = list(drawn.told)[-1]
        for gate in drawn.told[last][0]:
            if gate not in gates:
                own = [left for left in drawn.told[last][0] if left != gate]
                last = drawn.write(f"close {gate} {last}", (own, 0, 0, False))
        if tuple(drawn.told[last][0]) != tuple(gates):
            rest = drawn.write(" ".join(["one"] + [str(gate) for gate in gates]), (list(gates), 0, 0, False))
            drawn.write(f"{last} * {rest}", (list(gates), 0, 0, False))
    return Script("\n".join(["script"] + drawn.rows))


def draw_around(chance, gates, plain=False, lines=10, among=(1, 2, 3, 4), places=9, nets=9):
    """An around with a hole of these gates."""
    drawn = Lines(chance, places, nets, plain, list(among))
    hole = chance.choice(["h", "hole12", "x1", "x2", "zz"])
    drawn.told[hole] = (list(gates), len(gates), 1, True)
    while len(drawn.rows) < lines:
        drawn.draw()
    last = chance.choice([name for name in drawn.told if drawn.told[name][3]][-4:])
    if last == hole:
        last = drawn.write(f"add 1 {hole}" if not plain else f"{hole} * {drawn.write('one', ([], 0, 1, False))}",
                           (list(gates), 0, 0, True))
    while drawn.told[last][0] or list(drawn.told)[-1] != last:
        own = drawn.told[last][0]
        form = f"close {own[0]} {last}" if own else f"add 1 {last}" if not plain else f"{last} * {drawn.write('one', ([], 0, 1, False))}"
        last = drawn.write(form, (own[1:], 0, 0, True))
    return Around("\n".join([" ".join(["around", hole] + [str(gate) for gate in gates])] + drawn.rows))


def nets_of_lines(script):
    """For each name the list of (factor, net), whose sum the line is; a net is (how many places, roads, gates)."""
    told = {}
    for name, form, parts in script.lines:
        if form == "one":
            told[name] = [(Fraction(1), (len(parts), [], {gate: at for at, gate in enumerate(parts)}))]
        elif form == "road":
            ends = sorted({parts[1], parts[2]})
            road = (parts[0], ends.index(parts[1]), ends.index(parts[2]))
            told[name] = [(Fraction(1), (len(ends), [road], {gate: at for at, gate in enumerate(ends)}))]
        elif form == "*":
            told[name] = [(factor * more, laid(one, other)) for factor, one in told[parts[0]] for more, other in told[parts[1]]]
        elif form == "close":
            told[name] = [(factor, (places, roads, {gate: place for gate, place in gates.items() if gate != parts[0]}))
                          for factor, (places, roads, gates) in told[parts[1]]]
        elif form == "turn":
            turned = {parts[0]: parts[1], parts[1]: parts[0]}
            told[name] = [(factor, (places, roads, {turned.get(gate, gate): place for gate, place in gates.items()}))
                          for factor, (places, roads, gates) in told[parts[2]]]
        else:
            told[name] = [(Fraction(*factor) * more, one) for factor, operand in parts for more, one in told[operand]]
    return told


def laid(one, other):
    """Both nets laid together: the places of other are numbered anew."""
    places, roads, gates = one
    own = {}
    for gate, place in other[2].items():
        if gate in gates:
            own[place] = gates[gate]
    for place in range(other[0]):
        if place not in own:
            own[place] = places
            places += 1
    both = dict(gates)
    both.update({gate: own[place] for gate, place in other[2].items()})
    return places, roads + [(kind, own[start], own[end]) for kind, start, end in other[1]], both


def slow_worths(book, sums, gates):
    """The worths of a sum of nets at all rows of gates: all marks of all places are gone through."""
    found = {row: Fraction(0) for row in itertools.product(book.marks, repeat=len(gates))}
    for factor, (places, roads, at) in sums:
        closed = [place for place in range(places) if place not in at.values()]
        for marks in itertools.product(book.marks, repeat=places):
            worth = factor
            for place in closed:
                worth *= book.weight(marks[place])
            for kind, start, end in roads:
                worth *= book.worth(kind, marks[start], marks[end])
            found[tuple(marks[at[gate]] for gate in gates)] += worth
    return tuple(as_worth(book.by, worth) for worth in found.values())


def as_worth(by, number):
    """A Fraction as the worth that it stands for."""
    number = Fraction(number)
    if by:
        return (number.numerator * pow(number.denominator, -1, by) % by, 1)
    return (number.numerator, number.denominator)


def as_fraction(worth):
    return Fraction(*worth)


def slow_tables(book, script):
    """What line_tables tells, the slow way."""
    sums = nets_of_lines(script)
    return tuple((name, slow_worths(book, sums[name], script.gates_of(name))) for name, _, _ in script.lines)


def kinds_of(lines):
    return {parts[0] for _, form, parts in lines if form == "road"}


def bottoms_of(lines):
    """The factors with a bottom of some lines."""
    return {factor for _, form, parts in lines if form == "add" for factor, _ in parts if factor[1] > 1}

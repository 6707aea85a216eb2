"""Nets: places and roads, and the plain scripts that tell them."""

from opengates.checks import is_gate, is_integer, is_row
from opengates.closings import best_closings
from opengates.errors import BadNet, BadRow, NoKind, NotPlain, TooMany, TooWide
from opengates.forms import lines_of_last
from opengates.words import is_letters
from opengates.writers import Writer

MOST_PLACES = 60
MOST_ROADS = 400
MOST_GATES = 4
MOST_WAYS = 4096
MOST_PLACES_WRITTEN = 8


def net(script):
    """The net that a plain script tells."""
    for name, form, _ in script.lines:
        if form == "add":
            raise NotPlain(name)
    lines = lines_of_last(script.lines)
    _need_small(script, lines)
    told = {}
    for name, form, parts in lines:
        told[name] = _line_net(form, parts, told)
    return told[lines[-1][0]]


def by_ways(book, net, row):
    """What a net is worth at a row of its gates, all ways to mark closed places gone through."""
    if not _is_net(net):
        raise BadNet(net)
    places, roads, gates = net
    for kind, _, _ in roads:
        if kind not in book.kinds:
            raise NoKind(kind)
    if not is_row(row, book, len(gates)):
        raise BadRow(row)
    ways = 1
    for _ in range(places - len(gates)):
        ways = ways * len(book.marks)
    if ways > MOST_WAYS:
        raise TooMany(ways)
    total = sum(_worths_of_ways(book, net, row))
    return (total % book.by if book.by > 0 else total, 1)


def script_of(net):
    """A plain script of a net, of the least width."""
    if not _is_net(net):
        raise BadNet(net)
    places, roads, gates = net
    if places > MOST_PLACES_WRITTEN:
        raise TooMany(places)
    width, closings = best_closings(places, roads, gates)
    if width > MOST_GATES:
        raise TooWide(width)
    writer = Writer()
    pieces = _pieces(net)
    for place in closings:
        hanging = [piece for piece in pieces if place in piece[1]]
        pieces = [piece for piece in pieces if place not in piece[1]]
        beside = sorted(set([near for piece in hanging for near in piece[1]]))
        gate_by_place = {near: at for at, near in enumerate(beside, start=1)}
        name = writer.together([_brought(writer, piece, gate_by_place) for piece in hanging])
        name = writer.line(f"close {gate_by_place[place]} {name}")
        pieces.append((name, {near: gate for near, gate in gate_by_place.items() if near != place}))
    gate_by_place = {place: gate for gate, place in gates}
    # Without places nothing else would be written.
    names = [_brought(writer, piece, gate_by_place) for piece in pieces] or [writer.line("one")]
    writer.together(names)
    return writer.script()


def _is_net(value):
    if not isinstance(value, tuple) or len(value) != 3:
        return False
    places, roads, gates = value
    if not is_integer(places) or not 0 <= places <= MOST_PLACES:
        return False
    if not isinstance(roads, tuple) or len(roads) > MOST_ROADS:
        return False
    if not all([_is_road(road, places) for road in roads]):
        return False
    return _are_gates(gates, places)


def _is_road(value, places):
    if not isinstance(value, tuple) or len(value) != 3:
        return False
    kind, start, end = value
    if not isinstance(kind, str) or not is_letters(kind, 4):
        return False
    return _is_place(start, places) and _is_place(end, places)


def _is_place(value, places):
    return is_integer(value) and 0 <= value < places


def _are_gates(value, places):
    """Whether a value is a tuple of pairs of a gate and a place, gates ascending, no place twice."""
    if not isinstance(value, tuple) or len(value) > MOST_GATES:
        return False
    for pair in value:
        if not isinstance(pair, tuple) or len(pair) != 2:
            return False
        if not is_gate(pair[0]) or not _is_place(pair[1], places):
            return False
    found = [gate for gate, place in value]
    if found != sorted(set(found)):
        return False
    return len(set([place for gate, place in value])) == len(value)


def _need_small(script, lines):
    """Raises TooMany for the net of the last of these lines, only numbers being worked out."""
    places = {}
    roads = {}
    for name, form, parts in lines:
        gates = script.gates_of(name)
        if form == "one" or form == "road":
            places[name] = len(gates)
            roads[name] = 1 if form == "road" else 0
        elif form == "*":
            one, other = parts
            shared = len(script.gates_of(one)) + len(script.gates_of(other)) - len(gates)
            places[name] = places[one] + places[other] - shared
            roads[name] = roads[one] + roads[other]
        else:
            places[name] = places[parts[-1]]
            roads[name] = roads[parts[-1]]
    last = lines[-1][0]
    if places[last] > MOST_PLACES:
        raise TooMany(places[last])
    if roads[last] > MOST_ROADS:
        raise TooMany(roads[last])


def _line_net(form, parts, told):
    """The net of a line; told is a dict of the nets of those ahead of it."""
    if form == "one":
        return (len(parts), (), tuple([(gate, place) for place, gate in enumerate(parts)]))
    if form == "road":
        return _road_net(parts)
    if form == "*":
        return _product_net(told[parts[0]], told[parts[1]])
    places, roads, gates = told[parts[-1]]
    if form == "close":
        return (places, roads, tuple([pair for pair in gates if pair[0] != parts[0]]))
    turned = {parts[0]: parts[1], parts[1]: parts[0]}
    return (places, roads, tuple(sorted([(turned.get(gate, gate), place) for gate, place in gates])))


def _road_net(parts):
    kind, start, end = parts
    found = sorted(set([start, end]))
    gates = tuple([(gate, place) for place, gate in enumerate(found)])
    return (len(found), ((kind, found.index(start), found.index(end)),), gates)


def _product_net(one, other):
    places, roads, gates = one
    place_by_gate = {gate: place for gate, place in gates}
    gate_by_its = {its: gate for gate, its in other[2]}
    numbers = []
    for its in range(other[0]):
        gate = gate_by_its.get(its)
        if gate in place_by_gate:
            numbers.append(place_by_gate[gate])
        else:
            numbers.append(places)
            places = places + 1
    for gate, its in other[2]:
        place_by_gate[gate] = numbers[its]
    more = tuple([(kind, numbers[start], numbers[end]) for kind, start, end in other[1]])
    return (places, roads + more, tuple(sorted(place_by_gate.items())))


def _worths_of_ways(book, net, row):
    """For each way to mark the closed places, the product of all weights and worths."""
    places, roads, gates = net
    order = [place for gate, place in gates]
    order = order + [place for place in range(places) if place not in order]
    # Roads between the same places make one table, so each way asks it but once.
    ready = _ready_tables(book, roads, order)
    ways = [((), 1)]
    for at in range(len(order)):
        marks = (row[at],) if at < len(row) else book.marks
        longer = []
        for names, worth in ways:
            for mark in marks:
                own = names + (mark,)
                more = worth if at < len(row) else worth * book.weight(mark)
                for start, end, worths in ready[at]:
                    more = more * worths[own[start], own[end]]
                longer.append((own, more))
        ways = longer
    return [worth for names, worth in ways]


def _ready_tables(book, roads, order):
    """For each place of the order, tables of the roads that lead to it or back from those up to it."""
    kinds = {}
    for kind, start, end in roads:
        kinds.setdefault((order.index(start), order.index(end)), []).append(kind)
    ready = [[] for _ in order]
    for (start, end), names in kinds.items():
        worths = {}
        for mark in book.marks:
            for to in book.marks:
                worth = 1
                for kind in names:
                    worth = worth * book.worth(kind, mark, to)
                worths[mark, to] = worth
        ready[max(start, end)].append((start, end, worths))
    return ready


def _pieces(net):
    """What a net is put together of: roads, and places that have none.

    A piece is a pair: what it is, a road or the name of a line that is written, or None for
    a place alone; and its places, of a line a dict with the gate at which each of them is.
    """
    places, roads, gates = net
    pieces = [(road, road[1:]) for road in roads]
    on_roads = [place for road in roads for place in road[1:]]
    for place in range(places):
        if place not in on_roads:
            pieces.append((None, (place,)))
    return pieces


def _brought(writer, piece, gate_by_place):
    """The name of a line in which the places of a piece are at these gates."""
    what, places = piece
    if what is None:
        return writer.line(f"one {gate_by_place[places[0]]}")
    if isinstance(what, tuple):
        return writer.line(f"road {what[0]} {gate_by_place[what[1]]} {gate_by_place[what[2]]}")
    return _turned(writer, what, places, gate_by_place)


def _turned(writer, name, own, gate_by_place):
    """The name of a line in which what is at its own gates is at others."""
    place_by_gate = {gate: place for place, gate in own.items()}
    for place in own:
        gate = [at for at in place_by_gate if place_by_gate[at] == place][0]
        wanted = gate_by_place[place]
        if gate != wanted:
            name = writer.line(f"turn {gate} {wanted} {name}")
            # Whatever was at the wanted gate is where this place was.
            turned = {gate: wanted, wanted: gate}
            place_by_gate = {turned.get(at, at): its for at, its in place_by_gate.items()}
    return name

"""The lines of scripts: NAME = FORM, read behind lines ahead, and written.

`gates` is throughout a dict that has, for the name of each line ahead, the
ascending tuple of its gates. What is read is None if it cannot stand there.
"""

from opengates.words import factor_of, gate_of, is_letters, is_line_name, worth_word


def read_line(text, gates):
    """The (name, form, parts, its gates) of a line with a name of its own, or None."""
    words = text.split(" ")
    name = words[0]
    if not is_line_name(name) or name in gates or words[1:2] != ["="]:
        return None
    told = read_form(words[2:], gates)
    if told is None:
        return None
    form, parts, own = told
    return (name, form, parts, own)


def read_form(words, gates):
    """The (form, parts, its gates) of the words behind NAME =, or None."""
    head = words[0] if words else ""
    if head == "one":
        return _read_one(words[1:])
    if head == "road":
        return _read_road(words[1:])
    if head == "close":
        return _read_close(words[1:], gates)
    if head == "turn":
        return _read_turn(words[1:], gates)
    if head == "add":
        return _read_add(words[1:], gates)
    return _read_product(words, gates)


def read_gates(words):
    """The gates that these words tell, or None unless they ascend."""
    found = tuple([gate_of(word) for word in words])
    return None if None in found or found != _ascending(found) else found


def write_form(form, parts):
    """The text of a form, as it stands behind NAME =."""
    if form == "*":
        return f"{parts[0]} * {parts[1]}"
    if form == "add":
        words = [f"{worth_word(factor)} {operand}" for factor, operand in parts]
    else:
        words = [str(part) for part in parts]
    return " ".join([form, *words])


def operands_of(form, parts):
    """The names of the lines that a line uses, as it tells them."""
    if form == "*":
        return parts
    if form == "add":
        return tuple([operand for factor, operand in parts])
    if form == "close" or form == "turn":
        return parts[-1:]
    return ()


def renamed_parts(form, parts, names):
    """The parts of a line whose operands are called as the dict names tells."""
    if form == "*":
        return (names[parts[0]], names[parts[1]])
    if form == "add":
        return tuple([(factor, names[operand]) for factor, operand in parts])
    if form == "close" or form == "turn":
        return parts[:-1] + (names[parts[-1]],)
    return parts


def numbered(lines, first):
    """The names of lines, and those that they get when they are counted from first on."""
    return {line[0]: f"x{first + at}" for at, line in enumerate(lines)}


def written(lines, names):
    """The texts of lines, their names and operands called as names tells."""
    rows = []
    for name, form, parts in lines:
        told = write_form(form, renamed_parts(form, parts, names))
        rows.append(f"{names[name]} = {told}")
    return rows


def lines_of_last(lines):
    """The last line and all those on which it hangs, in their sequence."""
    wanted = {lines[-1][0]: True}
    found = []
    for name, form, parts in lines[::-1]:
        if name in wanted:
            found.append((name, form, parts))
            for operand in operands_of(form, parts):
                wanted[operand] = True
    return found[::-1]


def _read_one(words):
    found = read_gates(words)
    return None if found is None else ("one", found, found)


def _read_road(words):
    if len(words) != 3 or not is_letters(words[0], 4):
        return None
    start = gate_of(words[1])
    end = gate_of(words[2])
    if start is None or end is None:
        return None
    return ("road", (words[0], start, end), _ascending((start, end)))


def _read_product(words, gates):
    if len(words) != 3 or words[1] != "*":
        return None
    one = words[0]
    other = words[2]
    if one not in gates or other not in gates:
        return None
    return ("*", (one, other), _ascending(gates[one] + gates[other]))


def _read_close(words, gates):
    if len(words) != 2 or words[1] not in gates:
        return None
    gate = gate_of(words[0])
    name = words[1]
    if gate not in gates[name]:
        return None
    return ("close", (gate, name), tuple([left for left in gates[name] if left != gate]))


def _read_turn(words, gates):
    if len(words) != 3 or words[2] not in gates:
        return None
    one = gate_of(words[0])
    other = gate_of(words[1])
    name = words[2]
    if one is None or other is None or one == other:
        return None
    if one not in gates[name] and other not in gates[name]:
        return None
    turned = {one: other, other: one}
    return ("turn", (one, other, name), _ascending([turned.get(gate, gate) for gate in gates[name]]))


def _read_add(words, gates):
    factors = [factor_of(word) for word in words[0::2]]
    names = words[1::2]
    if not names or len(factors) != len(names) or None in factors:
        return None
    if not all([name in gates for name in names]):
        return None
    own = gates[names[0]]
    if not all([gates[name] == own for name in names]):
        return None
    return ("add", tuple(zip(factors, names)), own)


def _ascending(found):
    return tuple(sorted(set(found)))

"""Books and scripts read once more, in another way, to compare with."""

import math
import re

INTEGER = r"0|-?[1-9][0-9]*"
LINE_NAME = r"(?!(?:script|around|one|road|close|turn|add)\b)[a-z]{1,6}[0-9]{0,9}"
FORMS = [
    ("one", re.compile(r"one( 1)?( 2)?( 3)?( 4)?")),
    ("road", re.compile(r"road ([a-z]{1,4}) ([1-4]) ([1-4])")),
    ("*", re.compile(rf"({LINE_NAME}) \* ({LINE_NAME})")),
    ("close", re.compile(rf"close ([1-4]) ({LINE_NAME})")),
    ("turn", re.compile(rf"turn ([1-4]) (?!\1)([1-4]) ({LINE_NAME})")),
    ("add", re.compile(rf"add((?: (?:{INTEGER})(?:/[1-9][0-9]*)? {LINE_NAME})+)")),
]


def is_prime(number):
    return number > 1 and all(number % part for part in range(2, number))


def book_fault(text):
    """The number that BadBook would keep, or None."""
    lines = text.split("\n")
    for many in range(1, len(lines) + 1):
        if not book_begins(lines[:many]):
            return many
    return None if any(line.startswith("kind") for line in lines) else len(lines) + 1


def book_begins(lines):
    """Whether these lines are the beginning of a book."""
    found = re.fullmatch(r"book (0|[1-9][0-9]?)", lines[0])
    if not found or (found[1] != "0" and not is_prime(int(found[1]))):
        return False
    by = int(found[1])
    joined = "\n".join(lines[1:] + [""])
    if not re.fullmatch(rf"(mark [a-z]{{1,4}} (?:{INTEGER})\n){{0,4}}(kind [a-z]{{1,4}}( (?:{INTEGER}))+\n){{0,3}}", joined):
        return False
    words = [line.split(" ") for line in lines[1:]]
    marks = [line for line in words if line[0] == "mark"]
    kinds = [line for line in words if line[0] == "kind"]
    if kinds and not marks:
        return False
    low, high = (0, by - 1) if by else (-10 ** 12, 10 ** 12)
    numbers = [int(word) for line in words for word in line[2:]]
    if len({line[1] for line in marks}) < len(marks) or len({line[1] for line in kinds}) < len(kinds):
        return False
    if any(len(line) - 2 != len(marks) ** 2 for line in kinds):
        return False
    return all(low <= number <= high for number in numbers) and all(line[2] != "0" for line in marks)


def script_fault(text):
    """The number that BadScript would keep, or None."""
    lines = text.split("\n")
    if lines[0] != "script":
        return 1
    gates = {}
    for number, line in enumerate(lines[1:], 2):
        found = re.fullmatch(rf"({LINE_NAME}) = (.*)", line)
        own = form_gates(found[2], gates) if found else None
        if own is None or found[1] in gates:
            return number
        gates[found[1]] = own
    return 2 if len(lines) == 1 else None


def form_gates(text, gates):
    """The set of the gates of a form, or None."""
    for form, pattern in FORMS:
        found = pattern.fullmatch(text)
        if not found:
            continue
        if form == "one":
            return {int(word) for word in text.split(" ")[1:]}
        if form == "road":
            return {int(found[2]), int(found[3])}
        if form == "*":
            return gates[found[1]] | gates[found[2]] if found[1] in gates and found[2] in gates else None
        if form == "close":
            own = gates.get(found[2], set())
            return own - {int(found[1])} if int(found[1]) in own else None
        if form == "turn":
            pair = {int(found[1]), int(found[2])}
            own = gates.get(found[3], set())
            return own ^ pair if len(own & pair) == 1 else own if pair <= own else None
        words = found[1].strip(" ").split(" ")
        sets = [gates.get(word) for word in words[1::2]]
        if None in sets or any(one != sets[0] for one in sets):
            return None
        return sets[0] if all(factor_stands(word) for word in words[0::2]) else None
    return None


def factor_stands(word):
    top, slash, bottom = word.partition("/")
    if len(top.strip("-")) > 1000 or len(bottom) > 1000:
        return False
    return not slash or (int(bottom) > 1 and math.gcd(int(top), int(bottom)) == 1)


def around_fault(text):
    """The number that BadAround would keep, or None."""
    lines = text.split("\n")
    head = re.fullmatch(rf"around ({LINE_NAME})((?: [1-4])*)", lines[0])
    own = [int(word) for word in head[2].split()] if head else []
    if not head or any(one >= other for one, other in zip(own, own[1:])):
        return 1
    gates = {head[1]: set(own)}
    hanging = {head[1]}
    for number, line in enumerate(lines[1:], 2):
        found = re.fullmatch(rf"({LINE_NAME}) = (.*)", line)
        its = form_gates(found[2], gates) if found else None
        if its is None or found[1] in gates:
            return number
        words = [word in hanging for word in found[2].split(" ") if word in gates]
        if any(words):
            if found[2].startswith("add ") and not all(words) or " * " in found[2] and all(words):
                return number
            hanging.add(found[1])
        gates[found[1]] = its
    if len(lines) == 1:
        return 2
    return None if not gates[found[1]] and found[1] in hanging else len(lines)

"""Rows of marks: how they stand, and where parts of them stand."""


def rows_of(marks, many):
    """The tuple of all rows of so many marks, the last mark changing fastest."""
    found = [()]
    for _ in range(many):
        found = [row + (mark,) for row in found for mark in marks]
    return tuple(found)


def places_at(many, gates, wanted):
    """Where rows of the gates stand among rows of the wanted ones, which are some of them.

    There are so many marks. For each row of the gates, as they are told, it is the place of
    the row of its marks at the wanted gates, as these are told.
    """
    steps = {}
    step = 1
    for gate in wanted[::-1]:
        steps[gate] = step
        step = step * many
    found = [0]
    for gate in gates:
        step = steps.get(gate, 0)
        found = [at + step * mark for at in found for mark in range(many)]
    return found

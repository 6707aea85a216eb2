"""In which sequence the places of a net are best closed."""


def best_closings(places, roads, gates):
    """The least width of a net's scripts, and a tuple of its closed places in such a sequence.

    Whatever is closed ahead of a place, what hangs on it then is the same in each sequence of
    those; so the best way to close some places is a best way to close all but one, and then that.
    """
    open_places = [place for gate, place in gates]
    closed = [place for place in range(places) if place not in open_places]
    near = _near(places, roads)
    found = {0: (len(gates), ())}
    for lot in range(1, 1 << len(closed)):
        tries = []
        for at, place in enumerate(closed):
            if lot >> at & 1:
                width, ahead = found[lot - (1 << at)]
                wide = max(width, 1 + len(_beside(near, place, ahead)))
                tries.append((wide, ahead + (place,)))
        found[lot] = min(tries)
    return found[(1 << len(closed)) - 1]


def _near(places, roads):
    """For each place all others to which a road leads, from it or back."""
    found = [[] for _ in range(places)]
    for _, start, end in roads:
        if start != end:
            found[start].append(end)
            found[end].append(start)
    return [sorted(set(others)) for others in found]


def _beside(near, place, done):
    """The places that hang together with one when those done are closed."""
    seen = {place: True}
    ready = [place]
    found = []
    while ready:
        at = ready.pop()
        for other in near[at]:
            if other in seen:
                continue
            seen[other] = True
            if other in done:
                ready.append(other)
            else:
                found.append(other)
    return found

"""Bars: lags for a beat, or a round of pieces that shows that there are none."""

from lagshift.checks import check_beat
from lagshift.graphs import ring_from
from lagshift.nets import is_outer
from lagshift.pieces import end_of, is_piece, room_of
from lagshift.waits import best_from, between, way_to


def bar_fault(net, beat, thing):
    """None of a bar without fault against this beat, else a tuple that tells the fault, of anything."""
    check_beat(beat)
    if not isinstance(thing, list) or len(thing) == 0:
        return ("form",)
    if not all([is_piece(net, piece) for piece in thing]):
        return ("form",)
    for k, piece in enumerate(thing):
        behind = thing[(k + 1) % len(thing)]
        if not do_meet(net, end_of(net, piece), behind[0]):
            return ("meet", k)
    room = sum([room_of(net, beat, piece) for piece in thing])
    return ("sum", room) if room >= 0 else None


def do_meet(net, end, start):
    """Whether these two gates are the same, or an "in" or "out" each: then their lags are the same."""
    return end == start or (is_outer(net.gates[end]) and is_outer(net.gates[start]))


def for_beat(net, beat):
    """("lags", lags) with lags for this beat, or ("bar", bar) with a bar against it."""
    check_beat(beat)
    bounds = bounds_for(net, beat)
    found = [0] * (len(net.gates) + 1)
    onward = {}
    changed = None
    for turn in range(len(found)):
        changed = None
        for start, end, room, piece in bounds:
            if found[start] > found[end] + room:
                found[start] = found[end] + room
                onward[start] = (piece, end)
                changed = start
        if changed is None:
            # Only the differences of lags matter, so all are moved alike, to have 0 of each "in" and "out".
            return ("lags", [found[spot] - found[-1] for spot in spots_of(net)])
    # A way of bounds that comes by no spot twice has fewer of them than there were turns: the last change hangs on
    # a longer one, so on a ring of bounds whose rooms come to less than 0.
    return ("bar", ring_from(changed, onward))


def bounds_for(net, beat):
    """Tuples (start, end, room, piece): with lags for this beat, the start's lag is at most the end's and the room.

    Start and end are spots. Lags that keep to these bounds are for this beat: a way with more registers than the
    best one between its ends, or with less wait, asks for no more than that one.
    """
    spots = spots_of(net)
    told = []
    for start in range(len(net.gates)):
        known, last = best_from(net, start)
        for end in sorted(list(known)):
            piece = way_to(net, end, last)
            told.append((spots[start], spots[end], room_of(net, beat, piece), piece))
    return told


def spots_of(net):
    """For each gate its own number, but for each "in" and "out", whose lags are all the same, the one behind all."""
    return [len(net.gates) if is_outer(gate) else number for number, gate in enumerate(net.gates)]


def least_beat(net):
    """A tuple (beat, lags): the least beat for which there are lags, and such lags."""
    # With lags the beat is the wait of a way that has the fewest registers between its ends.
    waits = sorted(set([wait for start, end, many, wait in between(net)]))
    low = 0
    high = len(waits) - 1
    while low < high:
        middle = (low + high) // 2
        if for_beat(net, waits[middle])[0] == "lags":
            high = middle
        else:
            low = middle + 1
    return waits[low], for_beat(net, waits[low])[1]

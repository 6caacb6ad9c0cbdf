"""Bars: lags for a beat, or a round of pieces that shows that there are none."""

from lagshift.checks import check_beat
from lagshift.graphs import settle
from lagshift.nets import is_outer
from lagshift.pieces import end_of, is_piece, room_of
from lagshift.spots import bounds_for, lags_at, spots_in
from lagshift.waits import between


def bar_fault(net, beat, thing):
    """None of a bar without fault against this beat, else a tuple that tells the fault, of anything."""
    check_beat(beat)
    if not isinstance(thing, list) or len(thing) == 0:
        return ("form",)
    if not all([is_piece(net, piece) for piece in thing]):
        return ("form",)
    for k, piece in enumerate(thing):
        behind = thing[(k + 1) % len(thing)]
        if not do_meet(net, end_of(net, piece), behind[0]):
            return ("meet", k)
    room = sum([room_of(net, beat, piece) for piece in thing])
    return ("sum", room) if room >= 0 else None


def do_meet(net, end, start):
    """Whether these two gates are the same, or an "in" or "out" each: then their lags are the same."""
    return end == start or (is_outer(net.gates[end]) and is_outer(net.gates[start]))


def for_beat(net, beat):
    """("lags", lags) with lags for this beat, or ("bar", bar) with a bar against it."""
    check_beat(beat)
    found, ring = settle(spots_in(net), bounds_for(net, beat))
    if found is None:
        return ("bar", [piece for start, end, room, piece in ring])
    return ("lags", lags_at(net, found))


def least_beat(net):
    """A tuple (beat, lags): the least beat for which there are lags, and such lags."""
    # With lags the beat is the wait of a way that has the fewest registers between its ends.
    waits = sorted(set([wait for start, end, many, wait in between(net)]))
    low = 0
    high = len(waits) - 1
    while low < high:
        middle = (low + high) // 2
        if for_beat(net, waits[middle])[0] == "lags":
            high = middle
        else:
            low = middle + 1
    return waits[low], for_beat(net, waits[low])[1]

"""Bars: lags for a beat, or a round of pieces that shows that there are none."""

from lagshift.checks import check_beat
from lagshift.graphs import settle
from lagshift.pieces import ends_of, is_piece, room_of
from lagshift.spots import bounds_for, first_gap, lags_at, spots_in
from lagshift.waits import between


def bar_fault(net, beat, thing):
    """None of a bar without fault against this beat, else a tuple that tells the fault, of anything."""
    check_beat(beat)
    if not isinstance(thing, list) or len(thing) == 0:
        return ("form",)
    if not all([is_piece(net, piece) for piece in thing]):
        return ("form",)
    gap = first_gap(net, [ends_of(net, piece) for piece in thing])
    if gap is not None:
        return ("meet", gap)
    room = sum([room_of(net, beat, piece) for piece in thing])
    return ("sum", room) if room >= 0 else None


def for_beat(net, beat):
    """("lags", lags) with lags for this beat, or ("bar", bar) with a bar against it."""
    check_beat(beat)
    found, ring = settle(spots_in(net), bounds_for(net, beat))
    if found is None:
        return ("bar", [piece for start, end, room, piece in ring])
    return ("lags", lags_at(net, found))


def least_beat(net):
    """A tuple (beat, lags): the least beat for which there are lags, and such lags."""
    # With lags the beat is the wait of a way that has the fewest registers between its ends.
    waits = sorted(set([wait for start, end, many, wait in between(net)]))
    low = 0
    high = len(waits) - 1
    while low < high:
        middle = (low + high) // 2
        if for_beat(net, waits[middle])[0] == "lags":
            high = middle
        else:
            low = middle + 1
    return waits[low], for_beat(net, waits[low])[1]

"""Spots: the places of which lags are the numbers, and the bounds of these for a beat.

Each gate is a spot of its own, but all "in" and "out" gates, whose lags are the same, have one, behind all gates.
"""

from lagshift.graphs import settle
from lagshift.lags import GREATEST_LAG
from lagshift.nets import is_outer
from lagshift.pieces import room_of
from lagshift.waits import best_from, way_to


def spots_in(net):
    """How many spots there are."""
    return len(net.gates) + 1


def spots_of(net):
    """The spot of each gate."""
    return [len(net.gates) if is_outer(gate) else number for number, gate in enumerate(net.gates)]


def first_gap(net, ends):
    """The place of the first of these tuples (start, end) of gates that doesn't end at the spot where the next begins.

    Behind the last one comes the first one. None is told where there is no such place.
    """
    spots = spots_of(net)
    for k, (start, end) in enumerate(ends):
        behind = ends[(k + 1) % len(ends)]
        if spots[end] != spots[behind[0]]:
            return k
    return None


def lags_at(net, found):
    """The lags that these numbers of the spots are."""
    # Only the differences of lags matter, so all are moved alike, to have 0 of each "in" and "out".
    return [found[spot] - found[len(net.gates)] for spot in spots_of(net)]


def bounds_for(net, beat):
    """Tuples (start, end, room, piece): with lags for this beat, the start's lag is at most the end's and the room.

    Start and end are spots. Lags that keep to these bounds are for this beat: a way with more registers than the
    best one between its ends, or with less wait, asks for no more than that one.
    """
    spots = spots_of(net)
    told = []
    for start in range(len(net.gates)):
        known, last = best_from(net, start)
        for end in sorted(list(known)):
            piece = way_to(net, end, last)
            told.append((spots[start], spots[end], room_of(net, beat, piece), piece))
    return told


def near_lags(net, many, bounds):
    """Lags by numbers of so many places that keep to these bounds, as some do; from -500 to 500 if there are such."""
    # Gates that no wires join with an "in" or "out" may be moved alike, so what is settled may lie far from 0.
    outer = len(net.gates)
    limits = []
    for spot in range(outer):
        limits.append((spot, outer, GREATEST_LAG, None))
        limits.append((outer, spot, GREATEST_LAG, None))
    found, ring = settle(many, bounds + limits)
    if found is None:
        found, ring = settle(many, bounds)
    return lags_at(net, found)

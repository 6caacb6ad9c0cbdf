"""Waits: the longest ways without registers, and the best ways between two gates."""

from lagshift.checks import check_beat
from lagshift.graphs import order_along
from lagshift.lags import are_let, counts


def beat_of(net):
    """The greatest wait of ways without registers."""
    waits, last = arrivals(net, held_by_wire(net))
    return max(waits)


def longest(net):
    """A way (gate, wires) without registers whose wait is greatest."""
    waits, last = arrivals(net, held_by_wire(net))
    return way_to(net, waits.index(max(waits)), last)


def with_lags(net, lags, beat):
    """Whether these lags are let, and no way without registers has a wait above the beat with them."""
    many = counts(net, lags)
    check_beat(beat)
    if not are_let(net, lags):
        return False
    waits, last = arrivals(net, many)
    return max(waits) <= beat


def between(net):
    """The sorted list of (start, end, registers, wait) of the best ways between any two gates."""
    told = []
    for start in range(len(net.gates)):
        known, last = best_from(net, start)
        told.extend([(start, end, known[end][0], -known[end][1]) for end in sorted(list(known))])
    return told


def held_by_wire(net):
    """How many registers each wire has."""
    return [len(held) for start, end, held in net.wires]


def arrivals(net, many):
    """A tuple of two lists, by gate: the greatest wait of ways without registers that end there, and their last wire.

    The last wire is its place, None of a way without wires. Here many tells the registers of each wire, in each
    ring one at least.
    """
    bare = [place for place, here in enumerate(many) if here == 0]
    pairs = [(net.wires[place][0], net.wires[place][1]) for place in bare]
    waits = [wait for kind, wait in net.gates]
    last = [None] * len(net.gates)
    for gate in order_along(len(net.gates), pairs):
        for place, (start, end) in zip(bare, pairs):
            come = waits[gate] + net.gates[end][1]
            if start == gate and come > waits[end]:
                waits[end] = come
                last[end] = place
    return waits, last


def best_from(net, start):
    """A tuple of a dict and a list: the best ways from this gate, by the gates where they end, and their last wires.

    Best is a way with the fewest registers, and of these one with the greatest wait. The dict tells (registers, wait
    below 0), which is least of the best, of each gate to which a way leads; the list is as that of arrivals.
    """
    known = {start: (0, -net.gates[start][1])}
    last = [None] * len(net.gates)
    better = True
    # Each ring has a register, so no way gets better by one, and this comes to an end.
    while better:
        better = False
        for place, (here, end, held) in enumerate(net.wires):
            if here in known:
                come = (known[here][0] + len(held), known[here][1] - net.gates[end][1])
                if end not in known or come < known[end]:
                    known[end] = come
                    last[end] = place
                    better = True
    return known, last


def way_to(net, gate, last):
    """The way (gate, wires) that ends at this gate, where last tells of each gate its way's last wire, or None."""
    wires = []
    while last[gate] is not None:
        wires.append(last[gate])
        gate = net.wires[last[gate]][0]
    return gate, wires[::-1]

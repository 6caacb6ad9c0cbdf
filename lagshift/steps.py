"""Steps: lags come to by one gate at a time, each let on the way."""

from lagshift.checks import is_turn
from lagshift.lags import are_let_by, let_counts
from lagshift.nets import is_outer


def steps(net, lags):
    """A list of steps (gate, way) without fault that come to these lags, as few as can be."""
    let_counts(net, lags)
    now = [0] * len(lags)
    told = []
    # Some step is always let. At a gate that is furthest from its lag, a wire that would lose a register has one,
    # unless the gate at its other end is just as far; and as wires without registers make no ring, one of these gates
    # has no such wire.
    while now != lags:
        for gate, lag in enumerate(lags):
            way = 1 if lag > now[gate] else -1
            if lag != now[gate] and is_let_step(net, now, gate, way):
                now[gate] += way
                told.append((gate, way))
    return told


def is_let_step(net, now, gate, way):
    """Whether lags are let that are these, but for a step at this gate."""
    behind = list(now)
    behind[gate] += way
    return are_let_by(net, behind)


def steps_fault(net, lags, thing):
    """None of steps without fault that come to these lags, else a tuple that tells the fault, of anything."""
    let_counts(net, lags)
    if not isinstance(thing, list) or not all([is_step(net, step) for step in thing]):
        return ("form",)
    now = [0] * len(lags)
    for k, (gate, way) in enumerate(thing):
        now[gate] += way
        if not are_let_by(net, now):
            return ("let", k)
    return None if now == lags else ("end",)


def is_step(net, thing):
    """Whether this is a tuple (gate, way) with a gate of this net that is no "in" or "out"."""
    return is_turn(thing, len(net.gates)) and not is_outer(net.gates[thing[0]])

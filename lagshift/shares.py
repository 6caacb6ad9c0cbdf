"""Shares: the wires out of a gate with one row of registers in common, and the fewest of these for a beat."""

from lagshift.checks import check_beat, is_whole_from_to
from lagshift.errors import NoPaper
from lagshift.fewest import let_bounds
from lagshift.flows import least_flow
from lagshift.lags import let_counts
from lagshift.papers import gate_fault, is_paper, paper_of, plain_flow, room_in
from lagshift.spots import near_lags, spots_in, spots_of


def shared(net, lags):
    """How many registers the net needs with these lags, where the wires out of each gate share theirs."""
    most = {}
    for (start, end, held), many in zip(net.wires, let_counts(net, lags)):
        most[start] = max(most.get(start, 0), many)
    return sum(list(most.values()))


def shared_fault(net, beat, thing):
    """None of a shared paper without fault for this beat, else a tuple that tells the fault, of anything."""
    check_beat(beat)
    if not isinstance(thing, tuple) or len(thing) != 2:
        return ("form",)
    pick, paper = thing
    if not is_pick(net, pick) or not is_paper(net, paper):
        return ("form",)
    return gate_fault(net, paper, pick)


def is_pick(net, thing):
    """Whether this is a list of wires' places, rising, one out of each gate out of which a wire leads."""
    if not isinstance(thing, list):
        return False
    if not all([is_whole_from_to(place, 0, len(net.wires) - 1) for place in thing]):
        return False
    starts = [net.wires[place][0] for place in thing]
    return thing == sorted(thing) and sorted(starts) == sorted(set([wire[0] for wire in net.wires]))


def shared_bound(net, thing, beat):
    """How many shared registers a net has at least with lags for this beat, as this shared paper shows."""
    if shared_fault(net, beat, thing) is not None:
        raise NoPaper("this is no shared paper without fault")
    pick, paper = thing
    return sum([len(net.wires[place][2]) for place in pick]) - room_in(net, beat, paper)


def fewest_shared(net, beat):
    """A tuple (many, lags, thing): lags for this beat with as few shared registers as any, and a shared paper."""
    bounds = let_bounds(net, beat)
    first = first_wires(net)
    flow = plain_flow(net, bounds, first) + [1 if place in first else 0 for place in range(len(net.wires))]
    many = spots_in(net) + len(net.gates)
    flow, kept = least_flow(many, bounds + tail_bounds(net), flow)
    pick = [place for place, number in enumerate(flow[len(bounds):]) if number > 0]
    thing = (pick, paper_of(bounds, flow[:len(bounds)]))
    return shared_bound(net, thing, beat), near_lags(net, many, kept), thing


def first_wires(net):
    """The place of the first wire out of each gate out of which a wire leads."""
    starts = [wire[0] for wire in net.wires]
    return [place for place, start in enumerate(starts) if start not in starts[:place]]


def tail_bounds(net):
    """Bounds (spot, tail, room, place), one for each wire, between its end's spot and its start's tail.

    A gate's tail is a place of its own behind all spots. Its number is the gate's lag and the registers that its wires
    share, so it is no less than the lag of any wire's end and this wire's registers.
    """
    spots = spots_of(net)
    told = []
    for place, (start, end, held) in enumerate(net.wires):
        told.append((spots[end], spots_in(net) + start, -len(held), place))
    return told

"""Fewest: as few registers as any lags for a beat have, and a paper that shows it."""

from lagshift.bars import for_beat
from lagshift.checks import check_beat
from lagshift.errors import NoLagsThere, NoPaper
from lagshift.flows import least_flow
from lagshift.lags import registers
from lagshift.papers import gate_fault, is_paper, paper_of, plain_flow, room_in
from lagshift.spots import bounds_for, near_lags, spots_in


def paper_fault(net, beat, thing):
    """None of a paper without fault for this beat, else a tuple that tells the fault, of anything."""
    check_beat(beat)
    if not is_paper(net, thing):
        return ("form",)
    return gate_fault(net, thing, list(range(len(net.wires))))


def bound_of(net, thing, beat):
    """How many registers a net has at least with lags for this beat, as this paper shows."""
    if paper_fault(net, beat, thing) is not None:
        raise NoPaper("this is no paper without fault")
    return registers(net) - room_in(net, beat, thing)


def fewest(net, beat):
    """A tuple (many, lags, paper): lags for this beat with as few registers as any, and a paper that shows it."""
    bounds = let_bounds(net, beat)
    flow, kept = least_flow(spots_in(net), bounds, plain_flow(net, bounds, list(range(len(net.wires)))))
    paper = paper_of(bounds, flow)
    return bound_of(net, paper, beat), near_lags(net, spots_in(net), kept), paper


def let_bounds(net, beat):
    """The bounds of lags for this beat; refused where there are no such lags."""
    kind, told = for_beat(net, beat)
    if kind == "bar":
        raise NoLagsThere(told)
    return bounds_for(net, beat)

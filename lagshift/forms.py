"""Forms: lags from one net to another one of its form, or a loop that shows that there are none."""

from lagshift.checks import is_turn
from lagshift.errors import NoForm
from lagshift.graphs import settle
from lagshift.nets import are_of_one_form
from lagshift.spots import first_gap, near_lags, spots_in, spots_of


def lags_to(net, other):
    """("lags", lags) with which the net has the other one's registers, or ("loop", loop) where there are none."""
    check_form(net, other)
    bounds = bounds_to(net, other)
    found, ring = settle(spots_in(net), bounds)
    if found is None:
        return ("loop", [turn for start, end, room, turn in ring])
    return ("lags", near_lags(net, spots_in(net), bounds))


def check_form(net, other):
    """Refuse nets that aren't of one form."""
    if not are_of_one_form(net, other):
        raise NoForm("the nets must have the same gates, and wires with the same ends")


def bounds_to(net, other):
    """Bounds (start, end, room, turn), two for each wire, of lags with which it has the other one's registers.

    Together the two let no other difference of the lags of its ends. The turn is (place, 1), or against it (place, -1).
    """
    spots = spots_of(net)
    told = []
    for place, (start, end, held) in enumerate(net.wires):
        more = len(held) - len(other.wires[place][2])
        told.append((spots[start], spots[end], more, (place, 1)))
        told.append((spots[end], spots[start], -more, (place, -1)))
    return told


def loop_fault(net, other, thing):
    """None of a loop without fault, which shows that there are no lags, else a tuple that tells the fault."""
    check_form(net, other)
    if not isinstance(thing, list) or len(thing) == 0:
        return ("form",)
    if not all([is_turn(turn, len(net.wires)) for turn in thing]):
        return ("form",)
    gap = first_gap(net, [turn_ends(net, turn) for turn in thing])
    if gap is not None:
        return ("meet", gap)
    told = loop_sum(net, thing)
    return ("sum", told) if told == loop_sum(other, thing) else None


def turn_ends(net, turn):
    """The tuple (start, end) of the gates at which a turn, a wire gone along or against, begins and ends."""
    place, way = turn
    start, end, held = net.wires[place]
    return (start, end) if way > 0 else (end, start)


def loop_sum(net, loop):
    """The registers of the wires gone along, less those of the wires gone against."""
    return sum([len(net.wires[place][2]) * way for place, way in loop])

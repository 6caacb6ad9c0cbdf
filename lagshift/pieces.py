"""Pieces: ways of a net, told as (gate, wires), the gate at which they begin and the list of their wires' places."""

from lagshift.checks import is_whole_from_to


def is_piece(net, thing):
    """Whether this, of anything, is a piece of this net."""
    if not isinstance(thing, tuple) or len(thing) != 2:
        return False
    gate, wires = thing
    if not is_whole_from_to(gate, 0, len(net.gates) - 1) or not isinstance(wires, list):
        return False
    for place in wires:
        if not is_whole_from_to(place, 0, len(net.wires) - 1) or net.wires[place][0] != gate:
            return False
        gate = net.wires[place][1]
    return True


def end_of(net, piece):
    """The gate at which this piece ends."""
    gate, wires = piece
    return net.wires[wires[-1]][1] if len(wires) > 0 else gate


def ends_of(net, piece):
    """The tuple (start, end) of the gates at which this piece begins and ends."""
    return piece[0], end_of(net, piece)


def wait_of(net, piece):
    """The sum of the waits of all gates on this piece, each as often as it is come by."""
    gate, wires = piece
    return net.gates[gate][1] + sum([net.gates[net.wires[place][1]][1] for place in wires])


def room_of(net, beat, piece):
    """The number of this piece's registers, less 1 where its wait is above the beat.

    With lags for the beat, its first gate's lag is at most its last one's and this.
    """
    gate, wires = piece
    many = sum([len(net.wires[place][2]) for place in wires])
    return many - 1 if wait_of(net, piece) > beat else many

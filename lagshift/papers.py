"""Papers: pieces with numbers, which show how few registers there may be."""

from lagshift.checks import is_whole
from lagshift.nets import is_outer
from lagshift.pieces import end_of, ends_of, is_piece, room_of


def is_paper(net, thing):
    """Whether this, of anything, is a list of tuples (piece, many), many a whole number from 1 on."""
    return isinstance(thing, list) and all([is_numbered_piece(net, entry) for entry in thing])


def is_numbered_piece(net, thing):
    """Whether this is a tuple (piece, many), many a whole number from 1 on."""
    if not isinstance(thing, tuple) or len(thing) != 2:
        return False
    piece, many = thing
    return is_piece(net, piece) and is_whole(many) and many >= 1


def gate_fault(net, paper, places):
    """None, or ("gate", g), g the first gate without its balance where the wires at these places are counted.

    The balance is that of the numbers of the pieces that begin and end there, against the wires that lead out and in.
    Outer gates need none.
    """
    more = [0] * len(net.gates)
    for piece, many in paper:
        more[piece[0]] += many
        more[end_of(net, piece)] -= many
    for place in places:
        more[net.wires[place][0]] -= 1
        more[net.wires[place][1]] += 1
    for number, gate in enumerate(net.gates):
        if more[number] != 0 and not is_outer(gate):
            return ("gate", number)
    return None


def room_in(net, beat, paper):
    """The sum of room times number of a paper's pieces."""
    return sum([room_of(net, beat, piece) * many for piece, many in paper])


def plain_flow(net, bounds, places):
    """A flow whose paper is without fault where the wires at these places are counted: each wire for itself."""
    ends = [ends_of(net, piece) for start, end, room, piece in bounds]
    told = [0] * len(bounds)
    for place in places:
        told[ends.index((net.wires[place][0], net.wires[place][1]))] += 1
    return told


def paper_of(bounds, flow):
    """The paper of a flow: the bounds' pieces that have a number above 0, with it."""
    return [(piece, many) for (start, end, room, piece), many in zip(bounds, flow) if many > 0]

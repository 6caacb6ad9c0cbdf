"""Streams: several nets woven into one, which does by turns what each of them does."""

from lagshift.checks import is_whole_from_to
from lagshift.errors import NoStreams
from lagshift.nets import Net, are_of_one_form

MOST_STREAMS = 4


def woven(nets):
    """The net in whose wires the registers of these nets stand by turns."""
    check_nets(nets)
    return Net(nets[0].gates, [woven_wire(nets, place) for place in range(len(nets[0].wires))])


def check_nets(nets):
    """Refuse what is no list of one to four nets of one form, with as many registers on each wire."""
    if not isinstance(nets, list) or not 1 <= len(nets) <= MOST_STREAMS:
        raise NoStreams("nets must be a list of one to four nets")
    if not all([isinstance(thing, Net) for thing in nets]):
        raise NoStreams("nets must hold nets alone")
    for net in nets:
        if not are_of_one_form(net, nets[0]) or not have_as_many(net, nets[0]):
            raise NoStreams("nets must have the same gates, ends of wires, and numbers of registers")


def have_as_many(net, other):
    """Whether each wire of the one net has as many registers as that of the other one, both of one form."""
    return [len(wire[2]) for wire in net.wires] == [len(wire[2]) for wire in other.wires]


def woven_wire(nets, place):
    """The wire at this place, with the registers of these nets by turns."""
    start, end, held = nets[0].wires[place]
    return (start, end, tuple([net.wires[place][2][k] for k in range(len(held)) for net in nets]))


def parted(net, k):
    """The list of k nets of which this one is woven."""
    check_streams(k)
    if not all([len(wire[2]) % k == 0 for wire in net.wires]):
        raise NoStreams("the registers of each wire must be k times a number")
    return [Net(net.gates, [(start, end, held[turn::k]) for start, end, held in net.wires]) for turn in range(k)]


def slowed(net, k):
    """The net woven of k times this one."""
    check_streams(k)
    return woven([net] * k)


def check_streams(k):
    """Refuse what is no whole number from 1 to 4."""
    if not is_whole_from_to(k, 1, MOST_STREAMS):
        raise NoStreams("k must be a whole number from 1 to 4")

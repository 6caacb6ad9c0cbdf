"""Nets: gates, and wires between them that hold registers."""

from lagshift.checks import is_whole_from_to, is_worth
from lagshift.errors import NoGates, NoRing, NoWires
from lagshift.graphs import order_along, ring_from

KINDS = ("in", "out", "sum", "times", "most", "least", "first", "one")
OUTER_KINDS = ("in", "out")
KINDS_WITH_A_WIRE = ("out", "first")
GREATEST_WAIT = 100


class Net:
    """Gates (kind, wait), and wires (start, end, worths) between them, each ring with a register."""

    def __init__(self, gates, wires):
        check_gates(gates)
        check_wires(gates, wires)
        check_rings(len(gates), wires)
        self.gates = list(gates)
        self.wires = list(wires)

    def __eq__(self, other):
        return isinstance(other, Net) and self.gates == other.gates and self.wires == other.wires

    def ins(self):
        """The numbers of the "in" gates, rising."""
        return places_of("in", self.gates)

    def outs(self):
        """The numbers of the "out" gates, rising."""
        return places_of("out", self.gates)


def places_of(kind, gates):
    """The numbers of the gates of this kind, rising."""
    return [number for number, gate in enumerate(gates) if gate[0] == kind]


def is_outer(gate):
    """Whether this gate is an "in" or an "out": these have neither a wait nor a lag."""
    return gate[0] in OUTER_KINDS


def are_of_one_form(net, other):
    """Whether two nets have the same gates, and wires with the same ends."""
    return net.gates == other.gates and [wire[:2] for wire in net.wires] == [wire[:2] for wire in other.wires]


def check_gates(gates):
    """Refuse what is no list of one or more gates."""
    if not isinstance(gates, list) or len(gates) == 0:
        raise NoGates("gates must be a list of one or more gates")
    for thing in gates:
        if not is_gate(thing):
            raise NoGates("a gate must be a tuple of its kind and its wait")


def is_gate(thing):
    """Whether this is a tuple (kind, wait)."""
    if not isinstance(thing, tuple) or len(thing) != 2:
        return False
    kind, wait = thing
    # A thing that is no text might answer == in a way of its own, so it is not looked for.
    if not isinstance(kind, str) or kind not in KINDS:
        return False
    return is_whole_from_to(wait, 0, 0 if kind in OUTER_KINDS else GREATEST_WAIT)


def check_wires(gates, wires):
    """Refuse what is no list of wires that these gates let, by the place of the first fault."""
    if not isinstance(wires, list):
        raise NoWires(-1)
    come = [0] * len(gates)
    for place, thing in enumerate(wires):
        if not is_wire(thing, len(gates)) or not is_taken(thing, gates, come):
            raise NoWires(place)
        come[thing[1]] += 1
    for gate, many in zip(gates, come):
        if gate[0] in KINDS_WITH_A_WIRE and many == 0:
            raise NoWires(len(wires))


def is_wire(thing, many_gates):
    """Whether this is a tuple (start, end, worths) between so many gates."""
    if not isinstance(thing, tuple) or len(thing) != 3:
        return False
    start, end, held = thing
    if not is_whole_from_to(start, 0, many_gates - 1) or not is_whole_from_to(end, 0, many_gates - 1):
        return False
    return isinstance(held, tuple) and all([is_worth(worth) for worth in held])


def is_taken(wire, gates, come):
    """Whether both ends let this wire, where come tells how many wires lead into each gate ahead of it."""
    start, end = wire[0], wire[1]
    if gates[start][0] == "out" or gates[end][0] == "in":
        return False
    return gates[end][0] != "out" or come[end] == 0


def check_rings(many_gates, wires):
    """Refuse wires among which a ring has no registers."""
    placed = bare_order(many_gates, wires)
    if len(placed) < many_gates:
        raise NoRing(bare_ring(placed, wires))


def bare_order(many_gates, wires):
    """Gates, each behind those from which wires without registers lead to it.

    Left out are those on, and behind, rings without registers; of a net all are told.
    """
    return order_along(many_gates, [(start, end) for start, end, held in wires if len(held) == 0])


def bare_ring(placed, wires):
    """A ring without registers, where bare_order placed some gates, but not all."""
    back = {}
    for place, (start, end, held) in enumerate(wires):
        if len(held) == 0 and start not in placed:
            back[end] = (place, start)
    # A gate is left out only where such a wire comes from another one left out: each has a way back.
    return ring_from(min(list(back)), back)[::-1]

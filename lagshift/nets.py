"""Nets: gates, and wires between them that hold registers."""

from lagshift.checks import is_whole_from_to, is_worth
from lagshift.errors import NoGates, NoRing, NoWires

KINDS = ("in", "out", "sum", "times", "most", "least", "first", "one")
KINDS_WITHOUT_WAIT = ("in", "out")
KINDS_WITH_A_WIRE = ("out", "first")
GREATEST_WAIT = 100


class Net:
    """Gates (kind, wait), and wires (start, end, worths) between them, each ring with a register."""

    def __init__(self, gates, wires):
        check_gates(gates)
        check_wires(gates, wires)
        check_rings(len(gates), wires)
        self.gates = list(gates)
        self.wires = list(wires)

    def __eq__(self, other):
        return isinstance(other, Net) and self.gates == other.gates and self.wires == other.wires

    def ins(self):
        """The numbers of the "in" gates, rising."""
        return places_of("in", self.gates)

    def outs(self):
        """The numbers of the "out" gates, rising."""
        return places_of("out", self.gates)


def places_of(kind, gates):
    """The numbers of the gates of this kind, rising."""
    return [number for number, gate in enumerate(gates) if gate[0] == kind]


def check_gates(gates):
    """Refuse what is no list of one or more gates."""
    if not isinstance(gates, list) or len(gates) == 0:
        raise NoGates("gates must be a list of one or more gates")
    for thing in gates:
        if not is_gate(thing):
            raise NoGates("a gate must be a tuple of its kind and its wait")


def is_gate(thing):
    """Whether this is a tuple (kind, wait)."""
    if not isinstance(thing, tuple) or len(thing) != 2:
        return False
    kind, wait = thing
    # A thing that is no text might answer == in a way of its own, so it is not looked for.
    if not isinstance(kind, str) or kind not in KINDS:
        return False
    return is_whole_from_to(wait, 0, 0 if kind in KINDS_WITHOUT_WAIT else GREATEST_WAIT)


def check_wires(gates, wires):
    """Refuse what is no list of wires that these gates let, by the place of the first fault."""
    if not isinstance(wires, list):
        raise NoWires(-1)
    come = [0] * len(gates)
    for place, thing in enumerate(wires):
        if not is_wire(thing, len(gates)) or not is_taken(thing, gates, come):
            raise NoWires(place)
        come[thing[1]] += 1
    for gate, many in zip(gates, come):
        if gate[0] in KINDS_WITH_A_WIRE and many == 0:
            raise NoWires(len(wires))


def is_wire(thing, many_gates):
    """Whether this is a tuple (start, end, worths) between so many gates."""
    if not isinstance(thing, tuple) or len(thing) != 3:
        return False
    start, end, held = thing
    if not is_whole_from_to(start, 0, many_gates - 1) or not is_whole_from_to(end, 0, many_gates - 1):
        return False
    return isinstance(held, tuple) and all([is_worth(worth) for worth in held])


def is_taken(wire, gates, come):
    """Whether both ends let this wire, where come tells how many wires lead into each gate ahead of it."""
    start, end = wire[0], wire[1]
    if gates[start][0] == "out" or gates[end][0] == "in":
        return False
    return gates[end][0] != "out" or come[end] == 0


def check_rings(many_gates, wires):
    """Refuse wires among which a ring has no registers."""
    placed = bare_order(many_gates, wires)
    if len(placed) < many_gates:
        raise NoRing(bare_ring(placed, wires))


def bare_order(many_gates, wires):
    """Gates, each behind those from which wires without registers lead to it.

    Left out are those on, and behind, rings without registers; of a net all are told.
    """
    bare = [(wire[0], wire[1]) for wire in wires if len(wire[2]) == 0]
    missing = [0] * many_gates
    for start, end in bare:
        missing[end] += 1
    placed = [gate for gate in range(many_gates) if missing[gate] == 0]
    done = 0
    while done < len(placed):
        for start, end in bare:
            if start == placed[done]:
                missing[end] -= 1
                if missing[end] == 0:
                    placed.append(end)
        done += 1
    return placed


def bare_ring(placed, wires):
    """A ring without registers, where bare_order placed some gates, but not all."""
    back = {}
    for place, (start, end, held) in enumerate(wires):
        if len(held) == 0 and start not in placed:
            back[end] = place
    # A gate is left out only where such a wire comes from another one left out: each has a way back.
    gate = min(list(back))
    seen = {}
    path = []
    while gate not in seen:
        seen[gate] = len(path)
        path.append(back[gate])
        gate = wires[back[gate]][0]
    return path[seen[gate]:][::-1]

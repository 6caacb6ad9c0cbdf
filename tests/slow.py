"""What the document says, gone through by hand: slow, and without the program's help."""

import itertools

from lagshift.nets import Net

OUTER = ("in", "out")


def held(net):
    """The registers of each wire."""
    return [len(wire[2]) for wire in net.wires]


def moved_counts(net, lags):
    """The registers of each wire with these lags."""
    return [len(worths) + lags[end] - lags[start] for start, end, worths in net.wires]


def is_way(net, gate, wires):
    """Whether these wires lead on from this gate."""
    for place in wires:
        if net.wires[place][0] != gate:
            return False
        gate = net.wires[place][1]
    return True


def gates_on(net, gate, wires):
    """All gates that are come by, the first one and the last one among them."""
    return [gate] + [net.wires[place][1] for place in wires]


def wait_on(net, gate, wires):
    """The wait of a way."""
    return sum(net.gates[number][1] for number in gates_on(net, gate, wires))


def held_on(net, wires):
    """The registers of a way."""
    return sum(len(net.wires[place][2]) for place in wires)


def bare_ways(net, many):
    """All ways whose wires have no registers by many, (gate, wires) each."""
    now = [(gate, []) for gate in range(len(net.gates))]
    while now:
        yield from now
        now = [(gate, wires + [place]) for gate, wires in now for place, wire in enumerate(net.wires)
               if many[place] == 0 and wire[0] == gates_on(net, gate, wires)[-1]]


def beat_by(net, many):
    """The greatest wait of the ways whose wires have no registers by many."""
    return max(wait_on(net, gate, wires) for gate, wires in bare_ways(net, many))


def once_ways(net):
    """All ways that come by each gate once at most, (gate, wires) each."""
    now = [(gate, []) for gate in range(len(net.gates))]
    while now:
        yield from now
        now = [(gate, wires + [place]) for gate, wires in now for place, wire in enumerate(net.wires)
               if wire[0] == gates_on(net, gate, wires)[-1] and wire[1] not in gates_on(net, gate, wires)]


def between_by_hand(net):
    """What between tells; no way with the fewest registers comes by a gate twice, for each ring has a register."""
    best = {}
    for gate, wires in once_ways(net):
        ends = (gate, gates_on(net, gate, wires)[-1])
        cost = (held_on(net, wires), -wait_on(net, gate, wires))
        best[ends] = min(best.get(ends, cost), cost)
    return sorted((start, end, cost[0], -cost[1]) for (start, end), cost in best.items())


def rings_by_hand(net):
    """What rings tells: each row of gates in turn, with each choice of wires between them."""
    told = set()
    for many in range(1, len(net.gates) + 1):
        for gates in itertools.permutations(range(len(net.gates)), many):
            if gates[0] == min(gates):
                choices = [[place for place, wire in enumerate(net.wires) if wire[:2] == ends]
                           for ends in zip(gates, gates[1:] + gates[:1])]
                for ring in itertools.product(*choices):
                    at = ring.index(min(ring))
                    told.add(ring[at:] + ring[:at])
    return [list(ring) for ring in sorted(told)]


def all_lags(net, most):
    """All lags from -most to most."""
    choices = [(0,) if kind in OUTER else range(-most, most + 1) for kind, wait in net.gates]
    for lags in itertools.product(*choices):
        yield list(lags)


def least_by_hand(net):
    """The least beat, of all lags that matter: none need be further from 0 than there are inner gates and one more."""
    best = None
    for lags in all_lags(net, 1 + sum(kind not in OUTER for kind, wait in net.gates)):
        many = moved_counts(net, lags)
        if min(many, default=0) >= 0:
            beat = beat_by(net, many)
            best = beat if best is None else min(best, beat)
    return best


def is_for(net, lags, beat):
    """Whether these lags are lags, let, and no way without registers has a wait above the beat."""
    if type(lags) is not list or len(lags) != len(net.gates):
        return False
    for (kind, wait), lag in zip(net.gates, lags):
        if type(lag) is not int or abs(lag) > (0 if kind in OUTER else 500):
            return False
    many = moved_counts(net, lags)
    return min(many, default=0) >= 0 and beat_by(net, many) <= beat


def is_bar(net, beat, bar):
    """Whether this is a bar without fault."""
    if type(bar) is not list or not bar:
        return False
    for gate, wires in bar:
        if type(wires) is not list or not is_way(net, gate, wires):
            return False
    for (gate, wires), (begin, others) in zip(bar, bar[1:] + bar[:1]):
        end = gates_on(net, gate, wires)[-1]
        if end != begin and not (net.gates[end][0] in OUTER and net.gates[begin][0] in OUTER):
            return False
    long = sum(wait_on(net, gate, wires) > beat for gate, wires in bar)
    return sum(held_on(net, wires) for gate, wires in bar) - long < 0


def of_kind(kind, coming):
    """What a gate of this kind makes of these worths, as the document says it."""
    product = 1
    for worth in coming:
        product *= worth
    return {"sum": sum(coming) % 97, "times": product % 97, "most": max(coming + [0]), "least": min(coming + [96]),
            "first": (coming + [None])[0], "out": (coming + [None])[0], "one": int(any(coming))}[kind]


class Slow:
    """The worth of each gate in each beat, told from the first beat's registers and all rows alone."""

    def __init__(self, net, rows):
        self.net, self.rows, self.known = net, rows, {}

    def gate(self, gate, at):
        if (gate, at) not in self.known:
            self.known[gate, at] = self.find(gate, at)
        return self.known[gate, at]

    def find(self, gate, at):
        kind = self.net.gates[gate][0]
        if kind == "in":
            return self.rows[at][[k for k, one in enumerate(self.net.gates) if one[0] == "in"].index(gate)]
        return of_kind(kind, [self.wire(wire, at) for wire in self.net.wires if wire[1] == gate])

    def wire(self, wire, at):
        start, end, held = wire
        return held[at] if at < len(held) else self.gate(start, at - len(held))

    def net_behind(self):
        many = len(self.rows)
        return Net(self.net.gates, [(start, end, tuple(self.wire((start, end, held), many + k)
                                                       for k in range(len(held))))
                                    for start, end, held in self.net.wires])

    def outs(self):
        numbers = [k for k, one in enumerate(self.net.gates) if one[0] == "out"]
        return [[self.gate(out, at) for out in numbers] for at in range(len(self.rows))]


def moved_by_hand(net, lags, rows):
    """The net that moved tells, wire by wire from its row of worths; what is put in behind rows is not there to ask."""
    slow, many = Slow(net, rows), moved_counts(net, lags)
    first = [len(rows) - lags[end] for start, end, worths in net.wires]
    held = [[] for wire in net.wires]
    for place in range(max(map(sum, zip(first, many)), default=0)):
        for k, wire in enumerate(net.wires):
            if place < first[k] + many[k]:
                worth = slow.wire(wire, place)
                if place >= first[k]:
                    held[k].append(worth)
    return Net(net.gates, [(start, end, tuple(held[k])) for k, (start, end, worths) in enumerate(net.wires)])


def balance(net, number, pieces, places):
    """Of a gate: the numbers of the pieces that begin there less those that end there, less the same of the wires."""
    begin = sum(many for (gate, wires), many in pieces if gate == number)
    end = sum(many for (gate, wires), many in pieces if gates_on(net, gate, wires)[-1] == number)
    out = sum(net.wires[place][0] == number for place in places)
    into = sum(net.wires[place][1] == number for place in places)
    return (begin - end) - (out - into)


def bound_by_hand(net, beat, pieces, places):
    """The bound of a paper where the wires at these places are counted, or None where it is no paper without fault."""
    if type(pieces) is not list:
        return None
    bound = held_on(net, places)
    for (gate, wires), many in pieces:
        if type(wires) is not list or type(many) is not int or many < 1 or not is_way(net, gate, wires):
            return None
        bound -= many * (held_on(net, wires) - (wait_on(net, gate, wires) > beat))
    for number, (kind, wait) in enumerate(net.gates):
        if kind not in OUTER and balance(net, number, pieces, places) != 0:
            return None
    return bound


def fewest_by_hand(net, beat, most, count=sum):
    """The fewest registers of all lags from -most to most that do for the beat; count tells how many of the counts."""
    best = None
    for lags in all_lags(net, most):
        many = moved_counts(net, lags)
        if min(many, default=0) >= 0 and beat_by(net, many) <= beat:
            here = count(many)
            best = here if best is None else min(best, here)
    return best


def shared_by_hand(net, many):
    """The registers that there are where the wires out of each gate share theirs, many told by wire."""
    starts = {wire[0] for wire in net.wires}
    return sum(max(here for wire, here in zip(net.wires, many) if wire[0] == start) for start in starts)

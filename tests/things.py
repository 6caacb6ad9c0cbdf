"""Things that the tests share: odd things to hand in, sample nets, and nets made by a fixed rule."""

from lagshift.nets import Net
from tests.slow import OUTER, moved_counts


class Touchy:
    """Fails when it is compared, measured, hashed, iterated over or asked for its truth."""

    def fail(self, *rest):
        raise RuntimeError("touched")

    __eq__ = __ne__ = __lt__ = __le__ = __gt__ = __ge__ = fail
    __bool__ = __len__ = __iter__ = __hash__ = __getitem__ = __int__ = __index__ = fail


class Agreeing:
    """Says that it equals anything."""

    def __eq__(self, other):
        return True

    __hash__ = None


def odd_things():
    """Things of many kinds that are no list, no tuple, no text and no whole number."""
    return [None, True, False, 1.0, 0.0, 1j, b"in", b"", {}, {0: 1}, set(), {0}, frozenset(),
            range(3), iter([]), object(), Touchy(), Agreeing(), int, len, float("nan"), bytearray(2)]


HUGE = 10 ** 60 - 1


def no_beats():
    """Things that are no beats."""
    return odd_things() + [-1, -2, -HUGE, "", "5", [], [5], (), (5,)]


def small_net():
    """An in, a sum that feeds itself, and an out."""
    return Net([("in", 0), ("sum", 3), ("out", 0)], [(0, 1, ()), (1, 1, (5,)), (1, 2, ())])


def sample_net():
    """Two ways from ins to outs, with a ring on the one, and wires of both ways between two gates."""
    gates = [("in", 0), ("sum", 10), ("most", 20), ("out", 0), ("in", 0), ("one", 5), ("out", 0)]
    wires = [(0, 1, ()), (1, 2, ()), (2, 3, (1,)), (2, 1, (1, 2)), (4, 5, (3,)), (5, 6, ()), (1, 1, (7,)),
             (1, 2, (4,))]
    return Net(gates, wires)


def no_pieces():
    """Things that are no pieces of the sample net."""
    told = odd_things() + ["", "ab", 0, 1, HUGE, (), (1,), (1, [], []), [1, []], [], [[]], ([], 1), ((), [])]
    told += [(gate, []) for gate in odd_things() + [-1, 7, 8, HUGE, -HUGE, "", "1", [], [1], (), (1,)]]
    told += [(1, wires) for wires in odd_things() + ["", "1", 1, HUGE, (), (1,), {1: 1}, {1}]]
    told += [(1, [place]) for place in odd_things() + [-1, -8, 8, 9, HUGE, -HUGE, "", "1", [], [1], (), (1,)]]
    return told + [(1, [2]), (1, [1, 1]), (2, [1]), (0, [1]), (3, [0]), (1, [1, 2, 3]), (1, [1, None])]


class Fixed:
    """Numbers that look mixed, but are the same at each run."""

    def __init__(self, seed):
        self.state = seed * 7919 + 17

    def below(self, many):
        self.state = (self.state * 6364136223846793005 + 1442695040888963407) % 2 ** 64
        return (self.state >> 33) % many


INNER = ("sum", "times", "most", "least", "first", "one")


def kinds_for(fixed, gates):
    """Kinds in any order: at least one in, one out and one inner gate, the rest as it comes."""
    kinds = ["in", "out", INNER[fixed.below(6)]]
    while len(kinds) < gates:
        kinds.append(("in", "out", *INNER, *INNER)[fixed.below(14)])
    for at in range(len(kinds) - 1, 0, -1):
        other = fixed.below(at + 1)
        kinds[at], kinds[other] = kinds[other], kinds[at]
    return kinds


def fixed_wire(fixed, start, end, place, most):
    """A wire whose registers stand wherever it goes against the hidden order of the gates, elsewhere below most."""
    many = fixed.below(most)
    if place[start] >= place[end]:
        many += 1
    return (start, end, tuple(fixed.below(97) for k in range(many)))


def fixed_net(seed, gates=7, wires=14, most=4):
    """A net of all kinds of gates; wires without registers lead either way between numbers."""
    fixed = Fixed(seed)
    kinds = kinds_for(fixed, gates)
    place = [fixed.below(1000) for k in range(gates)]
    starts = [k for k in range(gates) if kinds[k] != "out"]
    inner = [k for k in range(gates) if kinds[k] in INNER]
    ends = [k for k in range(gates) if kinds[k] in ("out", "first")]
    while len(ends) < wires:
        ends.append(inner[fixed.below(len(inner))])
    made = [fixed_wire(fixed, starts[fixed.below(len(starts))], end, place, most) for end in ends]
    for at in range(len(made) - 1, 0, -1):
        other = fixed.below(at + 1)
        made[at], made[other] = made[other], made[at]
    waits = [0 if kind in ("in", "out") else fixed.below(101) for kind in kinds]
    return Net(list(zip(kinds, waits)), made)


def fixed_rows(seed, net, many):
    """So many rows for this net."""
    fixed = Fixed(seed + 500)
    return [[fixed.below(97) for gate in net.ins()] for k in range(many)]


def by_turns(lists):
    """The things of several lists of one length, by turns."""
    return [one[k] for k in range(len(lists[0])) for one in lists]


def like(net, seed):
    """A net of the same form with as many registers on each wire, of other worths."""
    fixed = Fixed(seed + 31)
    return Net(net.gates, [(start, end, tuple(fixed.below(97) for worth in held)) for start, end, held in net.wires])


def with_registers(net, many):
    """The net with so many registers on each wire."""
    return Net(net.gates, [(start, end, (7,) * here) for (start, end, held), here in zip(net.wires, many)])


def greatest_net():
    """A net at the bounds: twelve gates, thirty wires, two hundred registers."""
    gates = [("in", 0), ("in", 0)] + [(kind, 100) for kind in (*INNER, "sum", "times")] + [("out", 0), ("out", 0)]
    wires = [(0, 2, ()), (1, 3, ()), (9, 10, ()), (8, 11, (1, 2, 3, 4, 5))]
    for k in range(26):
        start, end = 2 + k % 8, 2 + (k * 3 + 1) % 8
        many = 8 if k % 2 == 0 else 7
        wires.append((start, end, tuple((k * 31 + j * 7) % 97 for j in range(many))))
    return Net(gates, wires)


def fixed_lags(seed, net, most):
    """Lags from -most to most."""
    fixed = Fixed(seed + 900)
    return [0 if kind in ("in", "out") else fixed.below(2 * most + 1) - most for kind, wait in net.gates]


def let_lags(seed, net, turns=30):
    """Lags that are let, come to by steps of one gate each."""
    fixed = Fixed(seed + 1300)
    lags = [0] * len(net.gates)
    for turn in range(turns):
        gate = fixed.below(len(lags))
        way = 1 - 2 * fixed.below(2)
        if net.gates[gate][0] not in OUTER:
            lags[gate] += way
            if min(moved_counts(net, lags), default=0) < 0:
                lags[gate] -= way
    return lags


def few_registers(seed, gates=5, wires=7):
    """A small net with few registers, so that much is to be gained by lags."""
    return fixed_net(seed, gates, wires, 1 + seed % 2)


def many_ways(held):
    """Twelve gates, thirty wires, no ring, and very many ways from the first to the last gate."""
    gates = [("in", 0)] + [("sum", 100)] * 10 + [("out", 0)]
    return Net(gates, [(0, 1, ()), (10, 11, ())] + [(1 + k % 9, 2 + k % 9, held) for k in range(28)])


def many_rings():
    """A net at the bounds with 432 rings, and very many ways that lead off them and never back."""
    gates = [("sum", k) for k in range(7)] + [("most", 100)] * 5
    ends = [(0, 1)] * 4 + [(1, 2)] * 3 + [(2, 3)] * 3 + [(3, 4)] * 3 + [(4, 5)] * 2 + [(5, 6)] * 2 + [(6, 0)]
    ends += [(0, 7)] + [(7, 8)] * 3 + [(8, 9)] * 3 + [(9, 10)] * 3 + [(10, 11)] * 2
    many = [7 if k < 20 else 6 for k in range(30)]
    return Net(gates, [(start, end, (k % 97,) * many[k]) for k, (start, end) in enumerate(ends)])


def bound_nets():
    """Nets at the bounds, of several shapes."""
    long_ring = [("sum", 100)] * 12
    held = (3,) * 200
    return [greatest_net(), many_ways(()), many_ways((5,) * 7), many_rings(),
            Net(long_ring, [(k, (k + 1) % 12, held if k == 5 else ()) for k in range(12)]),
            Net([("times", 100)], [(0, 0, held[:7] if k < 20 else held[:6]) for k in range(30)]),
            *[fixed_net(seed, 12, 30, 2) for seed in range(5)]]

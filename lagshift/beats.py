"""Beats: the worths of all gates, and the net behind them."""

from lagshift.checks import GREATEST_WORTH, is_worth
from lagshift.errors import NoRow
from lagshift.nets import Net, bare_order

DIVISOR = 97


def sum_of(coming):
    """The rest of the sum, of none 0."""
    return sum(coming) % DIVISOR


def product_of(coming):
    """The rest of the product, of none 1."""
    told = 1
    for worth in coming:
        told = told * worth % DIVISOR
    return told


def most_of(coming):
    """The greatest worth, of none the least that there is."""
    return max(coming, default=0)


def least_of(coming):
    """The least worth, of none the greatest that there is."""
    return min(coming, default=GREATEST_WORTH)


def first_of(coming):
    """The first worth; a gate that asks for it has a wire."""
    return coming[0]


def one_of(coming):
    """1 where a worth is above 0, else 0."""
    return 1 if max(coming, default=0) > 0 else 0


RULES = {
    "out": first_of,
    "sum": sum_of,
    "times": product_of,
    "most": most_of,
    "least": least_of,
    "first": first_of,
    "one": one_of,
}


def worths(net, row):
    """The list of all gates' worths in a beat."""
    check_row(net, row)
    told = [0] * len(net.gates)
    for gate, put in zip(net.ins(), row):
        told[gate] = put
    for gate in bare_order(len(net.gates), net.wires):
        kind = net.gates[gate][0]
        if kind != "in":
            rule = RULES[kind]
            told[gate] = rule(coming_to(gate, net.wires, told))
    return told


def coming_to(gate, wires, told):
    """The worths of the wires into this gate, where told has those of all gates it hangs on."""
    return [wire_worth(wire, told) for wire in wires if wire[1] == gate]


def wire_worth(wire, told):
    """The first register's worth, or, without registers, that of the gate it starts from."""
    start, end, held = wire
    return held[0] if len(held) > 0 else told[start]


def check_row(net, row):
    """Refuse what is no list of worths, one for each "in"."""
    if not isinstance(row, list) or len(row) != len(net.ins()):
        raise NoRow("a row must be a list of worths, one for each in")
    if not all([is_worth(worth) for worth in row]):
        raise NoRow("a row must hold whole numbers from 0 to 96")


def beat(net, row):
    """A tuple (the net behind the beat, the list of the outs' worths)."""
    told = worths(net, row)
    return net_behind(net, told), [told[gate] for gate in net.outs()]


def net_behind(net, told):
    """The net behind a beat in which the gates had these worths."""
    return Net(net.gates, [wire_behind(wire, told) for wire in net.wires])


def wire_behind(wire, told):
    """The wire behind a beat in which the gates had these worths."""
    start, end, held = wire
    return (start, end, held[1:] + (told[start],)) if len(held) > 0 else wire


def run(net, rows):
    """A tuple (the net behind the beats of all rows, the list of the outs' lists)."""
    if not isinstance(rows, list):
        raise NoRow("rows must be a list of rows")
    now = Net(net.gates, net.wires)
    told = []
    for row in rows:
        now, outs = beat(now, row)
        told.append(outs)
    return now, told

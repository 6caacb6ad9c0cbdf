"""Lags: registers moved over the gates of a net, and how many each wire has then."""

from lagshift.checks import is_whole_from_to
from lagshift.errors import NoLags, NotLet
from lagshift.nets import is_outer

GREATEST_LAG = 500


def counts(net, lags):
    """How many registers each wire has with these lags; below 0 where they aren't let."""
    check_lags(net, lags)
    return counts_by(net, lags)


def counts_by(net, numbers):
    """As counts, of numbers by gate that are not asked whether they are lags."""
    return [len(held) + numbers[end] - numbers[start] for start, end, held in net.wires]


def are_let(net, lags):
    """Whether no wire has fewer registers than none with these lags."""
    check_lags(net, lags)
    return are_let_by(net, lags)


def are_let_by(net, numbers):
    """As are_let, of numbers by gate that are not asked whether they are lags."""
    return min(counts_by(net, numbers), default=0) >= 0


def registers(net):
    """How many registers the net has."""
    return sum([len(held) for start, end, held in net.wires])


def check_lags(net, lags):
    """Refuse what is no list of lags, one for each gate, 0 of each "in" and "out"."""
    if not isinstance(lags, list) or len(lags) != len(net.gates):
        raise NoLags("lags must be a list of whole numbers, one for each gate")
    for gate, lag in zip(net.gates, lags):
        greatest = 0 if is_outer(gate) else GREATEST_LAG
        if not is_whole_from_to(lag, -greatest, greatest):
            raise NoLags("a lag must be a whole number from -500 to 500, of an in or out 0")


def let_counts(net, lags):
    """As counts, but refuse lags that aren't let, by the first wire that has fewer registers than none."""
    told = counts(net, lags)
    for place, many in enumerate(told):
        if many < 0:
            raise NotLet(place)
    return told

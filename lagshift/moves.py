"""Moves: a running net taken over by the net with other lags."""

from lagshift.beats import net_behind, run, worths
from lagshift.errors import TooEarly
from lagshift.lags import let_counts
from lagshift.nets import Net


def moved(net, lags, rows):
    """A tuple (net, outs): the net with these lags, taken over behind the beats of rows, and what run tells of rows."""
    many = let_counts(net, lags)
    outs = run(net, rows)[1]
    needed = max(0, max(lags))
    if len(rows) < needed:
        raise TooEarly(needed)
    history = worths_with_more(net, rows, max(0, -min(lags)))
    wires = []
    for (start, end, held), count in zip(net.wires, many):
        row = list(held) + [told[start] for told in history]
        first = len(rows) - lags[end]
        wires.append((start, end, tuple(row[first:first + count])))
    return Net(net.gates, wires), outs


def worths_with_more(net, rows, more):
    """For each beat of rows, and as many more, the list of all gates' worths."""
    # A gate with a lag below 0 stands behind so many registers from each "in" that its worths of as many beats hang
    # on rows alone: what is put in behind them does not matter.
    nothing = [0] * len(net.ins())
    now = net
    told = []
    for row in rows + [nothing] * more:
        told.append(worths(now, row))
        now = net_behind(now, told[-1])
    return told

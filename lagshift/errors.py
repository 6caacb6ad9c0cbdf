"""The refusals: each kind straight under LagError, none under another one.

A field may be any thing, also a number too long to be written out, so no message shows it.
"""


class LagError(ValueError):
    """Any refusal."""


class NoGates(LagError):
    """What should be a list of one or more gates is none."""


class NoWires(LagError):
    """What should be the wires of a net are none: place tells where."""

    def __init__(self, place):
        LagError.__init__(self, "these are no wires between these gates")
        self.place = place


class NoRing(LagError):
    """A ring of wires has no registers: ring tells the places of its wires."""

    def __init__(self, ring):
        LagError.__init__(self, "a ring of wires has no registers")
        self.ring = ring


class NoRow(LagError):
    """What should be a row of worths, or a list of rows, is none."""


class NoLags(LagError):
    """What should be lags are none."""


class NotLet(LagError):
    """With these lags a wire has fewer registers than none: wire tells its place."""

    def __init__(self, wire):
        LagError.__init__(self, "with these lags a wire has fewer registers than none")
        self.wire = wire


class NoBeat(LagError):
    """What should be a beat is none."""


class TooEarly(LagError):
    """There are too few rows for these lags: rows tells how many there must be."""

    def __init__(self, rows):
        LagError.__init__(self, "there are too few rows for these lags")
        self.rows = rows


class NoPaper(LagError):
    """What should be a paper without fault is none."""


class NoLagsThere(LagError):
    """There are no lags for this beat: bar shows it."""

    def __init__(self, bar):
        LagError.__init__(self, "there are no lags for this beat")
        self.bar = bar


class NoStreams(LagError):
    """These nets can't be woven, or this net can't be parted so."""


class NoText(LagError):
    """What should be the text of a net or of lags is none."""


class NoForm(LagError):
    """Two nets are not of one form."""

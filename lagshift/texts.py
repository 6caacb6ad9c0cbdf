"""Texts: nets and lags written out, and read again."""

from lagshift.checks import is_whole
from lagshift.errors import NoGates, NoLags, NoRing, NoText, NoWires
from lagshift.nets import Net

MOST_FIGURES = 60


def net_text(net):
    """The text of a net: a row for each gate, then one for each wire."""
    rows = [f"gate {kind} {wait}" for kind, wait in net.gates]
    for start, end, held in net.wires:
        rows.append("wire " + numbers_text([start, end] + list(held)))
    return "\n".join(rows)


def numbers_text(numbers):
    """The text of these whole numbers, parted by one blank each."""
    return " ".join([str(number) for number in numbers])


def read_net(text):
    """The net of which this is the text."""
    check_text(text)
    rows = [row.split(" ") for row in text.split("\n")]
    gates = [read_gate(words[1:]) for words in rows if words[0] == "gate"]
    wires = [read_wire(words[1:]) for words in rows if words[0] == "wire"]
    try:
        net = Net(gates, wires)
    except (NoGates, NoWires, NoRing):
        raise NoText("this is no text of a net") from None
    # Rows in another order, of other words, and numbers with noughts ahead were let pass so far.
    if net_text(net) != text:
        raise NoText("this is not how a net is written")
    return net


def check_text(text):
    """Refuse what is no text at all."""
    if not isinstance(text, str):
        raise NoText("a text must be a str")


def read_gate(words):
    """The gate that these words tell, of whatever kind and wait."""
    if len(words) != 2:
        raise NoText("a gate has a kind and a wait")
    return (words[0], read_number(words[1]))


def read_wire(words):
    """The wire that these words tell, whatever its numbers."""
    if len(words) < 2:
        raise NoText("a wire has a start and an end")
    numbers = [read_number(word) for word in words]
    return (numbers[0], numbers[1], tuple(numbers[2:]))


def read_number(word):
    """The whole number that this word tells by figures, perhaps with - or noughts ahead."""
    figures = word[1:] if word.startswith("-") else word
    if not figures.isascii() or not figures.isdigit() or len(figures) > MOST_FIGURES:
        raise NoText("a number must have at most sixty figures")
    return int(word)


def lags_text(lags):
    """The text of lags, whatever their net."""
    if not isinstance(lags, list) or not all([is_whole(lag) for lag in lags]):
        raise NoLags("lags must be a list of whole numbers")
    return numbers_text(lags)


def read_lags(text):
    """The list of whole numbers of which this is the text."""
    check_text(text)
    words = text.split(" ") if len(text) > 0 else []
    lags = [read_number(word) for word in words]
    # Numbers with noughts ahead, and -0, were let pass so far.
    if lags_text(lags) != text:
        raise NoText("this is not how lags are written")
    return lags

"""What is a whole number, a worth, a turn, a beat: asked of any thing."""

from lagshift.errors import NoBeat

GREATEST_WORTH = 96


def is_whole(thing):
    """Whether this is an int that is no truth."""
    return isinstance(thing, int) and not isinstance(thing, bool)


def is_whole_from_to(thing, least, greatest):
    """Whether this is a whole number from the least one to the greatest one."""
    return is_whole(thing) and least <= thing <= greatest


def is_worth(thing):
    """Whether this is a whole number from 0 to 96."""
    return is_whole_from_to(thing, 0, GREATEST_WORTH)


def is_turn(thing, many):
    """Whether this is a tuple (place, way): a whole number from 0 on below many, and the whole number 1 or -1."""
    if not isinstance(thing, tuple) or len(thing) != 2:
        return False
    place, way = thing
    return is_whole_from_to(place, 0, many - 1) and is_whole_from_to(way, -1, 1) and way != 0


def check_beat(thing):
    """Refuse what is no whole number from 0 on."""
    if not is_whole(thing) or thing < 0:
        raise NoBeat("a beat must be a whole number from 0 on")

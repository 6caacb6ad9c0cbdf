"""What is a whole number, and what is a worth: asked of any thing."""

GREATEST_WORTH = 96


def is_whole(thing):
    """Whether this is an int that is no truth."""
    return isinstance(thing, int) and not isinstance(thing, bool)


def is_whole_from_to(thing, least, greatest):
    """Whether this is a whole number from the least one to the greatest one."""
    return is_whole(thing) and least <= thing <= greatest


def is_worth(thing):
    """Whether this is a whole number from 0 to 96."""
    return is_whole_from_to(thing, 0, GREATEST_WORTH)

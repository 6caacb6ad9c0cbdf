"""Orders, rings and numbers of places, whatever leads from one to another."""


def order_along(many, pairs):
    """The places below many, each behind those from which one of these pairs (start, end) leads to it.

    Left out are those on, and behind, rings of such pairs.
    """
    missing = [0] * many
    for start, end in pairs:
        missing[end] += 1
    placed = [place for place in range(many) if missing[place] == 0]
    done = 0
    while done < len(placed):
        for start, end in pairs:
            if start == placed[done]:
                missing[end] -= 1
                if missing[end] == 0:
                    placed.append(end)
        done += 1
    return placed


def ring_from(place, onward):
    """What is come by on the ring to which one comes from this place.

    Here onward tells of each place on the way a tuple (what is come by next, the place behind it).
    """
    seen = {}
    path = []
    while place not in seen:
        seen[place] = len(path)
        passed, place = onward[place]
        path.append(passed)
    return path[seen[place]:]


def settle(many, bounds):
    """A tuple (numbers, ring): a number for each place below many that keeps to all bounds, or a ring of bounds.

    A bound is a tuple (start, end, room, thing): the start's number is at most the end's and the room. Told is one
    of the two, the other one is None. A ring is a list of bounds, each from the end of the one ahead, whose rooms
    come to less than 0: it shows that no numbers keep to all bounds.
    """
    found = [0] * many
    onward = {}
    changed = None
    for turn in range(many):
        changed = None
        for bound in bounds:
            start, end, room, thing = bound
            if found[start] > found[end] + room:
                found[start] = found[end] + room
                onward[start] = (bound, end)
                changed = start
        if changed is None:
            return found, None
    # A way of bounds that comes by no place twice has fewer of them than there were turns: the last change hangs on
    # a longer one, so on a ring of bounds whose rooms come to less than 0.
    return None, ring_from(changed, onward)

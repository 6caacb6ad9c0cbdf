"""Orders and rings of numbered places, whatever leads from one to another."""


def order_along(many, pairs):
    """The places below many, each behind those from which one of these pairs (start, end) leads to it.

    Left out are those on, and behind, rings of such pairs.
    """
    missing = [0] * many
    for start, end in pairs:
        missing[end] += 1
    placed = [place for place in range(many) if missing[place] == 0]
    done = 0
    while done < len(placed):
        for start, end in pairs:
            if start == placed[done]:
                missing[end] -= 1
                if missing[end] == 0:
                    placed.append(end)
        done += 1
    return placed


def ring_from(place, onward):
    """What is come by on the ring to which one comes from this place.

    Here onward tells of each place on the way a tuple (what is come by next, the place behind it).
    """
    seen = {}
    path = []
    while place not in seen:
        seen[place] = len(path)
        passed, place = onward[place]
        path.append(passed)
    return path[seen[place]:]

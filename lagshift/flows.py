"""Flows: numbers for bounds, one for each, changed along rings until they take the least room in all."""

from lagshift.graphs import settle


def least_flow(many, bounds, flow):
    """A tuple (flow, kept): a flow that takes the least room, and bounds for the numbers of the places that fit it.

    There are so many places, and no ring of bounds whose rooms come to less than 0. The flow handed in is changed
    along rings alone: so at each place what begins there, less what ends there, stays as it was. Kept are all bounds,
    and those that have a number above 0 the other way round as well: these leave no room unused.
    """
    told = list(flow)
    kept = both_ways(bounds, told)
    ring = settle(many, kept)[1]
    while ring is not None:
        change_along(ring, told)
        kept = both_ways(bounds, told)
        ring = settle(many, kept)[1]
    return told, kept


def both_ways(bounds, flow):
    """The bounds, and those with a number above 0 the other way round as well, each with its (place, way) as thing."""
    told = []
    for place, (start, end, room, thing) in enumerate(bounds):
        told.append((start, end, room, (place, 1)))
        if flow[place] > 0:
            told.append((end, start, -room, (place, -1)))
    return told


def change_along(ring, flow):
    """Change the flow along a ring by as much as it lets: less room is taken then."""
    turns = [thing for start, end, room, thing in ring]
    most = min([flow[place] for place, way in turns if way < 0])
    for place, way in turns:
        flow[place] += way * most

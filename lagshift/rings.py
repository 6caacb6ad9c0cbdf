"""Rings: ways that lead back to their beginning, each gate come by once, and what they hold."""


def rings(net):
    """All rings, each a list of wires' places that begins with its least, sorted."""
    told = []
    for place in range(len(net.wires)):
        add_rings(net, [place], told)
    return told


def add_rings(net, path, told):
    """Put behind told, sorted, the rings that begin with this path, a list of places, and have none below its first."""
    start = net.wires[path[0]][0]
    end = net.wires[path[-1]][1]
    if end == start:
        told.append(path)
        return
    free = gates_back(net, path)
    for place in range(path[0] + 1, len(net.wires)):
        if net.wires[place][0] == end and net.wires[place][1] in free:
            add_rings(net, path + [place], told)


def gates_back(net, path):
    """The gate where this path begins, and the gates off it from which a way leads there that comes by no other of it.

    The way has only wires behind the path's first one. So each path that is gone on with becomes a ring, and no
    time is lost on the others, of which there may be very many.
    """
    passed = [net.wires[place][0] for place in path]
    passed.append(net.wires[path[-1]][1])
    found = [passed[0]]
    done = 0
    while done < len(found):
        for start, end, held in net.wires[path[0] + 1:]:
            if end == found[done] and start not in passed and start not in found:
                found.append(start)
        done += 1
    return found


def loads(net):
    """For each of the rings, in order, the tuple (wait, registers)."""
    return [load_of(net, ring) for ring in rings(net)]


def load_of(net, ring):
    """The tuple (wait, registers) of a ring: the sum of its gates' waits, and how many registers it has."""
    wait = sum([net.gates[net.wires[place][0]][1] for place in ring])
    return wait, sum([len(net.wires[place][2]) for place in ring])


def slowest(net):
    """None where there is no ring, else one whose wait by its registers is greatest."""
    best = None
    for ring in rings(net):
        if best is None or is_slower(load_of(net, ring), load_of(net, best)):
            best = ring
    return best


def is_slower(load, other):
    """Whether the one load's wait by its registers is greater; each ring of a net has a register."""
    return load[0] * other[1] > other[0] * load[1]

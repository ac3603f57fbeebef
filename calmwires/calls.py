"""What the wires want at a stand, and whether one step calls off another."""

from calmwires.errors import CalledOff
from calmwires.graphs import bits, fills_of, is_made, steps_of, takes_of, wire_of
from calmwires.stands import can, stands, steps_at, way


def wants(graph, stand, wire):
    if is_called(graph, stand, wire, True):
        return 1
    if is_called(graph, stand, wire, False):
        return -1
    return 0


def is_called(graph, stand, wire, up):
    return any([can(graph, stand, step) for step in steps_of(graph, wire, up)])


def called_off(graph, stand, a, b):
    return can(graph, stand, a) and can(graph, stand, b) and robs(graph, b, a)


# Of two steps that can be done, the doing of one hurts the other just where it keeps
# a token that the other needs: so this is the same at each stand.
def robs(graph, by, lost):
    kept = bits(takes_of(graph, by)) & ~bits(fills_of(graph, by))
    return (kept & bits(takes_of(graph, lost))) != 0


def sound(graph, most):
    found = stands(graph, most)
    pairs = rivals(graph)
    for n, stand in enumerate(found):
        here = steps_at(graph, stand[:2])
        for by, lost in pairs:
            if by in here and lost in here:
                raise CalledOff(way(found, n), lost, by)
    return found


# The pairs that no stand of a sound graph lets both be done, the least by first, then the least lost.
def rivals(graph):
    pairs = []
    for by in range(len(graph[1])):
        for lost in range(len(graph[1])):
            if by != lost and touches_made(graph, by, lost) and robs(graph, by, lost):
                pairs.append((by, lost))
    return pairs


# The world may choose between its own steps; nothing else may be called off.
def touches_made(graph, by, lost):
    return is_made(graph, wire_of(graph, by)) or is_made(graph, wire_of(graph, lost))

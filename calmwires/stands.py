"""The stands of a graph: tuples (marks, code), and the ways to them."""

from calmwires.errors import Broken, Crowded, TooMany
from calmwires.graphs import bits, fills_of, has_one, is_rise, takes_of, wire_of


def can(graph, stand, step):
    takes = bits(takes_of(graph, step))
    return (stand[0] & takes) == takes


def behind(graph, stand, step):
    wire = wire_of(graph, step)
    if has_one(stand[1], wire) == is_rise(graph, step):
        raise Broken([step])
    left = stand[0] & ~bits(takes_of(graph, step))
    fills = bits(fills_of(graph, step))
    if (left & fills) != 0:
        raise Crowded([step])
    return (left | fills, stand[1] ^ (1 << wire))


def stands(graph, most):
    found = [(graph[2], graph[3], None, None)]
    seen = {(graph[2], graph[3]): True}
    at = 0
    while at < len(found):
        here = steps_at(graph, found[at][:2])
        for step in here:
            stand = come_to(graph, found, at, step)
            if stand in seen:
                continue
            if len(found) >= most:
                raise TooMany()
            seen[stand] = True
            found.append((stand[0], stand[1], at, step))
        at += 1
    return found


def steps_at(graph, stand):
    return [step for step in range(len(graph[1])) if can(graph, stand, step)]


# A refusal of one step tells that step alone; here it is told from the beginning on.
def come_to(graph, found, at, step):
    try:
        return behind(graph, found[at][:2], step)
    except Broken:
        raise Broken(way(found, at) + [step]) from None
    except Crowded:
        raise Crowded(way(found, at) + [step]) from None


def way(found, n):
    steps = []
    at = n
    while found[at][2] is not None:
        steps.append(found[at][3])
        at = found[at][2]
    return list(reversed(steps))

"""A wire put into a graph ahead of two steps, so that stands of one code get unlike ones."""

from calmwires.calls import sound
from calmwires.clashes import need_none
from calmwires.errors import CalmError, NoPlace
from calmwires.graphs import bits, fills_of, has_one, is_made, is_name, names, takes_of, wire_of

MOST_WIRES_AHEAD = 9
MOST_STEPS_AHEAD = 22
MANY_SPOTS = 64


def put_in(graph, name, first, second):
    need_room(graph, name)
    need_two(made_steps(graph), first, second)
    wire = len(graph[0])
    spots = free_spots(graph)
    rise = (wire, True, takes_of(graph, first), (spots[0],))
    fall = (wire, False, takes_of(graph, second), (spots[1],))
    steps = list(graph[1])
    steps[first] = waiting(steps[first], spots[0])
    steps[second] = waiting(steps[second], spots[1])
    return (graph[0] + ((name, "made"),), tuple(steps + [rise, fall]), graph[2], graph[3])


def waiting(step, spot):
    return (step[0], step[1], (spot,), step[3])


def need_two(steps, first, second):
    if first == second or first not in steps or second not in steps:
        raise NoPlace()


def need_room(graph, name):
    if not is_name(name) or name in names(graph) or not has_room(graph):
        raise NoPlace()


def has_room(graph):
    if len(graph[0]) > MOST_WIRES_AHEAD or len(graph[1]) > MOST_STEPS_AHEAD:
        return False
    return len(free_spots(graph)) >= 2


def free_spots(graph):
    used = graph[2]
    for step in range(len(graph[1])):
        used = used | bits(takes_of(graph, step)) | bits(fills_of(graph, step))
    return [spot for spot in range(MANY_SPOTS) if not has_one(used, spot)]


def made_steps(graph):
    return [step for step in range(len(graph[1])) if is_made(graph, wire_of(graph, step))]


def parts(graph, name, first, second, most):
    return is_calm(put_in(graph, name, first, second), most)


def is_calm(graph, most):
    try:
        need_none(graph, most)
    except CalmError:
        return False
    return True


def parted(graph, name, most):
    sound(graph, most)
    need_room(graph, name)
    steps = made_steps(graph)
    for first in steps:
        for second in steps:
            if first != second and parts(graph, name, first, second, most):
                return (first, second, put_in(graph, name, first, second))
    return None

"""Clashes: stands of one code at which a made wire wants unlike things."""

from calmwires.calls import sound, wants
from calmwires.errors import Clash
from calmwires.graphs import made
from calmwires.stands import way


def clashes(graph, most):
    return clashes_among(graph, sound(graph, most))


def need_none(graph, most):
    found = sound(graph, most)
    told = clashes_among(graph, found)
    if len(told) > 0:
        first = told[0]
        raise Clash(way(found, first[0]), way(found, first[1]), first[2])
    return found


# Gone through in rising order of n, m and wire, so the list is sorted as it grows.
def clashes_among(graph, found):
    wires = made(graph)
    wanted = [wants_of(graph, stand[:2], wires) for stand in found]
    told = []
    for n in range(len(found)):
        for m in range(n + 1, len(found)):
            if found[n][1] == found[m][1]:
                told.extend([(n, m, wire) for wire in unlike(wires, wanted[n], wanted[m])])
    return told


def wants_of(graph, stand, wires):
    return [wants(graph, stand, wire) for wire in wires]


def unlike(wires, one, other):
    return [wire for place, wire in enumerate(wires) if one[place] != other[place]]

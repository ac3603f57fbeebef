"""What a graph holds: its wires and steps, and whole numbers as rows of bits.

A graph is a tuple (wires, steps, marks, code), a wire a pair (name, kind),
a step a tuple (wire, up, takes, fills).
"""

LETTERS = "abcdefghijklmnopqrstuvwxyz"
LONGEST_NAME = 8
WORDS = ("given", "made", "up", "down", "start")


def is_name(text):
    if len(text) < 1 or len(text) > LONGEST_NAME or text in WORDS:
        return False
    return all([sign in LETTERS for sign in text])


def names(graph):
    return [name for name, kind in graph[0]]


def made(graph):
    return [wire for wire in range(len(graph[0])) if is_made(graph, wire)]


def is_made(graph, wire):
    return graph[0][wire][1] == "made"


def steps_of(graph, wire, up):
    return [number for number, step in enumerate(graph[1]) if step[0] == wire and step[1] == up]


def wire_of(graph, step):
    return graph[1][step][0]


def is_rise(graph, step):
    return graph[1][step][1]


def takes_of(graph, step):
    return graph[1][step][2]


def fills_of(graph, step):
    return graph[1][step][3]


def bits(some):
    number = 0
    for place in some:
        number = number | (1 << place)
    return number


def ones(number):
    return [place for place in range(number.bit_length()) if has_one(number, place)]


def has_one(number, place):
    return ((number >> place) & 1) == 1

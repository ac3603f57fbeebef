"""A graph's text: one row for each wire, one for each step, and the start."""

from calmwires.errors import NoText
from calmwires.graphs import bits, is_name, names, ones

KINDS = ("given", "made")
DIRECTIONS = ("up", "down")
FIGURES = "0123456789"
MOST_WIRES = 10
MOST_STEPS = 24
LAST_SPOT = 63


def shown(graph):
    known = names(graph)
    rows = [f"{kind} {name}" for name, kind in graph[0]]
    rows.extend([step_row(step, known) for step in graph[1]])
    rows.append(start_row(graph[2], graph[3], known))
    return "\n".join(rows)


def step_row(step, known):
    ahead = ["up" if step[1] else "down", known[step[0]], ":"]
    return " ".join(ahead + written(step[2]) + ["->"] + written(step[3]))


def start_row(marks, code, known):
    up = [known[wire] for wire in ones(code)]
    return " ".join(["start"] + written(ones(marks)) + [":"] + up)


def written(spots):
    return [str(spot) for spot in spots]


# Each part takes the good rows of its form and stops at the first row that is none.
# A row of one form is never one of another, so the first row that no part takes
# is the first that is wrong.
def read(text):
    rows = text.split("\n")
    wires = read_wires(rows)
    known = [name for name, kind in wires]
    steps = read_steps(rows[len(wires):], known)
    at = len(wires) + len(steps)
    if len(steps) == 0 or at == len(rows):
        raise NoText(at + 1)
    start = read_start(rows[at], known)
    if start is None:
        raise NoText(at + 1)
    if len(rows) > at + 1:
        raise NoText(at + 2)
    return (tuple(wires), tuple(steps), start[0], start[1])


def read_wires(rows):
    wires = []
    known = []
    for row in rows[:MOST_WIRES]:
        wire = read_wire(row, known)
        if wire is None:
            return wires
        wires.append(wire)
        known.append(wire[0])
    return wires


def read_wire(row, known):
    words = row.split(" ")
    if len(words) != 2 or words[0] not in KINDS:
        return None
    if not is_name(words[1]) or words[1] in known:
        return None
    return (words[1], words[0])


def read_steps(rows, known):
    steps = []
    for row in rows[:MOST_STEPS]:
        step = read_step(row, known)
        if step is None:
            return steps
        steps.append(step)
    return steps


def read_step(row, known):
    words = row.split(" ")
    if len(words) < 3 or words[0] not in DIRECTIONS or words[1] not in known:
        return None
    if words[2] != ":" or "->" not in words:
        return None
    arrow = words.index("->")
    takes = read_spots(words[3:arrow])
    fills = read_spots(words[arrow + 1:])
    if takes is None or fills is None or len(takes) == 0 or len(fills) == 0:
        return None
    return (known.index(words[1]), words[0] == "up", tuple(takes), tuple(fills))


def read_start(row, known):
    words = row.split(" ")
    if words[0] != "start" or ":" not in words:
        return None
    colon = words.index(":")
    spots = read_spots(words[1:colon])
    up = read_up(words[colon + 1:], known)
    if spots is None or up is None:
        return None
    return (bits(spots), bits(up))


def read_spots(words):
    if not all([is_spot(word) for word in words]):
        return None
    return rising([int(word) for word in words])


# The length comes first, for int refuses very many figures.
def is_spot(word):
    if len(word) not in (1, 2) or not all([sign in FIGURES for sign in word]):
        return False
    return str(int(word)) == word and int(word) <= LAST_SPOT


def read_up(words, known):
    if not all([word in known for word in words]):
        return None
    return rising([known.index(word) for word in words])


def rising(numbers):
    return numbers if numbers == sorted(set(numbers)) else None

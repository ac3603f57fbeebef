"""The desk: a graph's text answered with a text."""

from calmwires.calls import sound
from calmwires.clashes import need_none
from calmwires.errors import Broken, CalledOff, Clash, Crowded, NoText, TooMany
from calmwires.gates import found
from calmwires.graphs import LETTERS, has_one, made, names, ones
from calmwires.putting import has_room, parted
from calmwires.texts import read

MOST_STEPS_TO_PART = 8
MOST_STANDS_TO_PART = 40
MOST_TO_PART = 80


def shown_net(graph, net):
    known = names(graph)
    rows = []
    for part in net:
        rows.append(" ".join([known[part[0]], "up", shown_gates(known, part[1])]))
        rows.append(" ".join([known[part[0]], "down", shown_gates(known, part[2])]))
    return "\n".join(rows)


def shown_gates(known, gates):
    rows = []
    for gate in gates:
        rows.extend([shown_row(known, row) for row in gate])
    return "never" if len(rows) == 0 else " | ".join(rows)


def shown_row(known, row):
    if row[0] == 0:
        return "always"
    return " ".join([shown_level(known[wire], has_one(row[1], wire)) for wire in ones(row[0])])


def shown_level(name, up):
    return name if up else "-" + name


def answered(text, most):
    try:
        graph = read(text)
    except NoText as refusal:
        line = refusal.line
        return f"no graph {line}"
    return answer_for(graph, most)


def answer_for(graph, most):
    try:
        come = need_none(graph, most)
    except Broken as refusal:
        return "broken " + shown_way(refusal.way)
    except Crowded as refusal:
        return "crowded " + shown_way(refusal.way)
    except TooMany:
        return "too many"
    except CalledOff as refusal:
        return called_off_row(shown_way(refusal.way), refusal.lost, refusal.by)
    except Clash as refusal:
        return "\n".join([clash_row(graph, refusal)] + put_rows(graph, most))
    return "\n".join([calm_row(len(come))] + net_rows(graph, most))


def shown_way(steps):
    return "-" if len(steps) == 0 else " ".join([str(step) for step in steps])


def called_off_row(way, lost, by):
    return f"called off {way} lost {lost} by {by}"


def clash_row(graph, clash):
    name = names(graph)[clash.wire]
    return " : ".join(["clash " + name, shown_way(clash.one), shown_way(clash.other)])


def put_rows(graph, most):
    if not is_to_be_parted(graph, most):
        return []
    told = parted(graph, own_name(graph), most)
    return ["put none" if told is None else "put " + shown_way(told[:2])]


def is_to_be_parted(graph, most):
    if len(graph[1]) > MOST_STEPS_TO_PART or most > MOST_TO_PART or not has_room(graph):
        return False
    return len(sound(graph, most)) <= MOST_STANDS_TO_PART


# A graph with room for one more wire has nine at most, so some letter is free.
def own_name(graph):
    return [letter for letter in LETTERS if letter not in names(graph)][0]


def calm_row(many):
    return f"calm {many}"


def net_rows(graph, most):
    return [] if len(made(graph)) == 0 else [shown_net(graph, found(graph, most))]

"""Gates for the made wires: whether one is good, and a net of good ones."""

from calmwires.calls import is_called, sound
from calmwires.clashes import need_none
from calmwires.graphs import has_one, made
from calmwires.rows import is_up, row_of
from calmwires.stands import behind, steps_at


def good_rise(graph, most, wire, gate):
    return is_good(graph, sound(graph, most), wire, gate, True)


def good_fall(graph, most, wire, gate):
    return is_good(graph, sound(graph, most), wire, gate, False)


# Only where the wire is at its new level and stays is the gate free, but for coming up there.
def is_good(graph, come, wire, gate, up):
    resting = {}
    for stand in [told[:2] for told in come]:
        high = is_up(gate, stand[1])
        if has_one(stand[1], wire) == up and not is_called(graph, stand, wire, not up):
            resting[stand] = high
        elif high != is_called(graph, stand, wire, up):
            return False
    return not any([comes_up(graph, resting, stand) for stand in resting])


def comes_up(graph, resting, stand):
    if resting[stand]:
        return False
    return any([resting.get(behind(graph, stand, step), False) for step in steps_at(graph, stand)])


def found(graph, most):
    come = need_none(graph, most)
    return tuple([gates_of(graph, come, wire) for wire in made(graph)])


def gates_of(graph, come, wire):
    return (wire, (gate_for(graph, come, wire, True),), (gate_for(graph, come, wire, False),))


# Without a clash no code is in both lists, so a gate can be up at just the stands that call it.
# Then it is never up where the wire stays, and so is good.
def gate_for(graph, come, wire, up):
    calling = [told[1] for told in come if is_called(graph, told[:2], wire, up)]
    others = [told[1] for told in come if not is_called(graph, told[:2], wire, up)]
    care = needed_care(len(graph[0]), calling, others)
    return tuple(sorted(set([row_of(code, care) for code in calling])))


# Wires that aren't needed to tell the codes apart are left out, so that rows fall together and stay short.
def needed_care(many, calling, others):
    care = (1 << many) - 1
    for wire in range(many):
        less = care & ~(1 << wire)
        if are_told_apart(calling, others, less):
            care = less
    return care


def are_told_apart(calling, others, care):
    return len(set([code & care for code in calling]) & set([code & care for code in others])) == 0

"""A bench: a graph beside a net for its made wires, and what can move there.

A pose is a tuple (stand, levels), levels a whole number whose bit g is 1 where gate g is up.
Gates are numbered from 0: wire by wire, the rises ahead of the falls. A move is answered with
the pose behind it and what is told of it: None, ("astray", wire) or ("vanished", list).
"""

from calmwires.errors import NoMove
from calmwires.graphs import bits, has_one, is_made, ones, steps_of, wire_of
from calmwires.rows import is_up
from calmwires.stands import behind, can, steps_at


class Bench:
    def __init__(self, graph, net):
        self.graph = graph
        self.gates = gates_in(net)
        self.sides = sides_of(net)
        self.known = {}

    def first(self):
        return ((self.graph[2], self.graph[3]), self.levels_at(self.graph[3]))

    # The same codes are asked for again and again, and a gate may have hundreds of rows.
    def levels_at(self, code):
        if code not in self.known:
            self.known[code] = bits([g for g, gate in enumerate(self.gates) if is_up(gate, code)])
        return self.known[code]

    def moves_at(self, pose):
        late = pose[1] ^ self.levels_at(pose[0][1])
        gates = [("gate", g) for g in ones(late)]
        wires = [("wire", side[0]) for side in self.sides if is_wire_called(side, pose)]
        return self.given_moves(pose[0]) + gates + wires

    def given_moves(self, stand):
        here = steps_at(self.graph, stand)
        return [("step", step) for step in here if not is_made(self.graph, wire_of(self.graph, step))]

    def moved(self, pose, move):
        ahead = self.moves_at(pose)
        if move not in ahead:
            raise NoMove()
        after = self.pose_behind(pose, move)
        if after is None:
            return (pose, ("astray", move[1]))
        gone = vanished(ahead, move, self.moves_at(after))
        told = ("vanished", gone) if len(gone) > 0 else None
        return (after, told)

    def pose_behind(self, pose, move):
        if move[0] == "gate":
            return (pose[0], pose[1] ^ (1 << move[1]))
        step = self.step_of(pose[0], move)
        return None if step is None else (behind(self.graph, pose[0], step), pose[1])

    def step_of(self, stand, move):
        if move[0] == "step":
            return move[1]
        rises = not has_one(stand[1], move[1])
        let = [step for step in steps_of(self.graph, move[1], rises) if can(self.graph, stand, step)]
        return let[0] if len(let) > 0 else None


def gates_in(net):
    gates = []
    for part in net:
        gates.extend(part[1])
        gates.extend(part[2])
    return gates


# The gates of a side are kept as bits, so that the levels of all of them are asked for at once.
def sides_of(net):
    sides = []
    first = 0
    for part in net:
        middle = first + len(part[1])
        end = middle + len(part[2])
        sides.append((part[0], bits(list(range(first, middle))), bits(list(range(middle, end)))))
        first = end
    return sides


def is_wire_called(side, pose):
    high = has_one(pose[0][1], side[0])
    toward = side[2] if high else side[1]
    away = side[1] if high else side[2]
    return (pose[1] & toward) != 0 and (pose[1] & away) == 0


# A step of the world may be called off by another one; gates and wires may not.
def vanished(ahead, move, now):
    return [called for called in ahead if called[0] != "step" and called != move and called not in now]

"""Plays: a graph beside a net, moved by the world, the gates and the made wires."""

from calmwires.benches import Bench
from calmwires.graphs import has_one


class Play:
    def __init__(self, graph, net):
        self.graph = graph
        self.net = net
        self.bench = Bench(graph, net)
        self.pose = self.bench.first()

    def stand(self):
        return self.pose[0]

    def level(self, g):
        return has_one(self.pose[1], g)

    def moves(self):
        return self.bench.moves_at(self.pose)

    def go(self, move):
        behind = self.bench.moved(self.pose, move)
        self.pose = behind[0]
        return behind[1]

    def twin(self):
        other = Play(self.graph, self.net)
        other.pose = self.pose
        return other


def apart(net):
    return tuple([(part[0], gates_apart(part[1]), gates_apart(part[2])) for part in net])


def gates_apart(gates):
    single = []
    for gate in gates:
        single.extend([(row,) for row in gate])
    return tuple(single)

"""A net looked through: whether each play of it is calm, or a way to where one is not."""

from calmwires.benches import Bench
from calmwires.errors import TooMany
from calmwires.stands import steps_at, way


# The list grows as the list of the stands does, (stand, levels, from, move) in the place of
# (marks, code, from, step), so that a way is told by the same function.
def looked(graph, net, most):
    bench = Bench(graph, net)
    come = [bench.first() + (None, None)]
    seen = {bench.first(): True}
    at = 0
    while at < len(come):
        pose = come[at][:2]
        moves = bench.moves_at(pose)
        if len(moves) == 0 and len(steps_at(graph, pose[0])) > 0:
            return ("stuck", way(come, at), None)
        for move in moves:
            behind = bench.moved(pose, move)
            if behind[1] is not None:
                return (behind[1][0], way(come, at) + [move], behind[1][1])
            if behind[0] in seen:
                continue
            if len(come) >= most:
                raise TooMany()
            seen[behind[0]] = True
            come.append(behind[0] + (at, move))
        at += 1
    return ("calm", len(come))

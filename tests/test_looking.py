import copy
import unittest

from calmwires.errors import TooMany
from calmwires.gates import found
from calmwires.graphs import made
from calmwires.looking import looked
from calmwires.plays import Play, apart
from calmwires.stands import behind, can, stands, steps_at
from calmwires.texts import read, shown
from tests.samples import (
    CHOICE, FOLLOW, GIVE_BACK, JOIN, LONE, NEST, Draw, WordPlay, asked, calm_graphs, nets_for, plays_by_words, ring,
    sound_graphs,
)

ALWAYS = ((0, 0),)
# A rise gate that is up where LONE's a is; n has no step.
ASTRAY = ((0, (((2, 2),),), ()),)

# FOLLOW, and beside it a given wire c that goes up and down as it likes.
SIDE = read(
    "given a\ngiven c\nmade b\nup a : 0 -> 1\nup b : 1 -> 2\ndown a : 2 -> 3\ndown b : 3 -> 0\nup c : 4 -> 5\ndown c : 5 -> 4\nstart 0 4 :"
)


class Checked(unittest.TestCase):
    def check(self, graph, net, told):
        """What looked tells, but calm: its way is gone along by a play, and its last move, or its end, is as told."""
        self.assertIs(type(told), tuple)
        kind, way, what = told
        self.assertIs(type(way), list)
        play = Play(graph, net)
        for move in way[:-1]:
            self.assertIsNone(play.go(move), (shown(graph), net, told))
        if kind == "stuck":
            self.assertIsNone(what)
            for move in way[-1:]:
                self.assertIsNone(play.go(move))
            self.assertEqual(play.moves(), [])
            self.assertNotEqual(steps_at(graph, play.stand()), [])
        else:
            self.assertIn(kind, ("astray", "vanished"))
            self.assertEqual(play.go(way[-1]), (kind, what))


class Looked(Checked):
    """[22]"""

    def test_calm(self):
        for graph, net, many in (
            (FOLLOW, found(FOLLOW, 4), 12),
            (FOLLOW, ((1, (((1, 1),),), (((1, 0),),)),), 10),
            (JOIN, found(JOIN, 8), 20),
            (CHOICE, found(CHOICE, 7), 22),
            (GIVE_BACK, found(GIVE_BACK, 8), 72),
            (LONE, ((0, (), ()),), 2),
            (LONE, ((0, ((),), (ALWAYS,)),), 2),
            (ring(("given", "given")), (), 4),
            (ring(("made",)), ((0, (((1, 0),),), (((1, 1),),)),), 8),
        ):
            self.assertEqual(plays_by_words(graph, net, 400), (many, set()))
            self.assertEqual(looked(graph, net, many), ("calm", many))
            self.assertEqual(looked(graph, net, 400), ("calm", many))
            self.assertEqual(asked(looked, graph, net, many - 1), (TooMany, None))

    def test_most_1(self):
        graph = read("given a\nmade b\nup a : 0 -> 1\nstart 5 :")
        self.assertEqual(looked(graph, ((1, (), ()),), 1), ("calm", 1))
        self.assertEqual(asked(looked, FOLLOW, found(FOLLOW, 4), 1), (TooMany, None))
        self.assertEqual(looked(ring(("made",)), ((0, (), ()),), 1), ("stuck", [], None))

    def test_an_end_is_not_stuck(self):
        # Where the graph lets no step, nothing needs to move.
        graph = read("given a\nmade b\nup a : 0 -> 1\nup b : 1 -> 2\nstart 0 :")
        net = found(graph, 3)
        told = looked(graph, net, 400)
        self.assertEqual(told, ("calm", plays_by_words(graph, net, 400)[0]))
        play = Play(graph, net)
        for move in (("step", 0), ("gate", 0), ("wire", 1), ("gate", 0)):
            self.assertIsNone(play.go(move))
        self.assertEqual((play.moves(), steps_at(graph, play.stand())), ([], []))

    def test_astray(self):
        # Here the way is the only one.
        self.assertEqual(looked(FOLLOW, ((1, (ALWAYS,), ()),), 400), ("astray", [("wire", 1)], 1))
        graph = ring(("made", "given"))
        net = ((0, (((1, 0),),), (((1, 1),),)),)
        told = looked(graph, net, 400)
        self.assertEqual(told[0], "astray")
        self.check(graph, net, told)

    def test_vanished(self):
        net = ((0, (), (((2, 2),),)),)
        self.assertEqual(plays_by_words(LONE, net, 400)[1], {"vanished"})
        self.assertEqual(looked(LONE, net, 400), ("vanished", [("step", 0), ("step", 1)], [("gate", 0)]))
        several = ((0, (), (((2, 2),), ((1, 0), (2, 2)), ((2, 2),))),)
        self.assertEqual(looked(LONE, several, 400)[0::2], ("vanished", [("gate", 0), ("gate", 2)]))
        self.check(LONE, several, looked(LONE, several, 400))

    def test_a_wire_has_vanished(self):
        # Behind a's rise both gates are called; the fall gate may come up while the wire is called by the other.
        graph = read("made b\ngiven a\nup a : 0 -> 1\nup b : 1 -> 2\nstart 0 :")
        net = ((0, (((2, 2),),), (((3, 2),),)),)
        told = looked(graph, net, 400)
        self.check(graph, net, told)
        self.assertEqual(told[::2], ("vanished", [("wire", 0)]))

    def test_stuck(self):
        self.assertEqual(looked(FOLLOW, ((1, (), ()),), 400), ("stuck", [("step", 0)], None))
        self.assertEqual(looked(NEST, ((0, (), ()), (1, (), ())), 400), ("stuck", [], None))
        # Both of a wire's gates are up: none of them moves, nor the wire.
        self.assertEqual(looked(ring(("made",)), ((0, (ALWAYS,), (ALWAYS,)),), 400), ("stuck", [], None))

    def test_a_fault_in_the_last_play(self):
        # Only the last of the plays is stuck: many is enough to tell it.
        graph = ring(("given",) * 9 + ("made",))
        net = ((9, (), ()),)
        self.assertEqual(plays_by_words(graph, net, 400), (10, {"stuck"}))
        self.assertEqual(looked(graph, net, 10), ("stuck", [("step", k) for k in range(9)], None))
        self.assertEqual(asked(looked, graph, net, 9), (TooMany, None))

    def test_a_fault_ahead_of_too_many(self):
        graph = GIVE_BACK
        net = ((1, (((1, 1),),), (((1, 0),),)), (2, (), ()))
        many, kinds = plays_by_words(graph, net, 400)
        self.assertEqual(kinds, {"stuck"})
        told = looked(graph, net, many)
        self.assertEqual(told[0], "stuck")
        self.check(graph, net, told)

    def test_drawn(self):
        kinds, draw = {}, Draw(1)
        for graph in sound_graphs(60):
            for net in nets_for(draw, graph):
                kind = self.looked_at_all(graph, net)
                kinds[kind] = kinds.get(kind, 0) + 1
        self.assertTrue(all(kinds.get(kind, 0) > 20 for kind in ("calm", "astray", "vanished", "stuck", TooMany)), kinds)

    def looked_at_all(self, graph, net):
        many, faults = plays_by_words(graph, net, 150)
        if many is None:
            told = asked(looked, graph, net, 150)
            if told != (TooMany, None):
                self.check(graph, net, told)
            return told[0]
        told = looked(graph, net, many)
        self.assertEqual(looked(graph, net, 400), told)
        if not faults:
            self.assertEqual(told, ("calm", many), (shown(graph), net))
            if many > 1:
                self.assertEqual(asked(looked, graph, net, many - 1), (TooMany, None))
        else:
            self.assertIn(told[0], faults, (shown(graph), net))
            self.check(graph, net, told)
        return told[0]

    def test_asked_again(self):
        draw = Draw(8)
        pairs = [(graph, net) for graph in sound_graphs(15) for net in nets_for(draw, graph)]
        kept = copy.deepcopy(pairs)
        told = [asked(looked, *pair, 100) for pair in pairs]
        again = [asked(looked, *pair, 100) for pair in reversed(pairs)]
        self.assertEqual(list(reversed(again)), told)
        self.assertEqual(pairs, kept)

    def test_lists_are_the_askers_own(self):
        net = ((0, (), (((2, 2),),)),)
        told = looked(LONE, net, 400)
        told[1].clear()
        told[2].append("more")
        self.assertEqual(looked(LONE, net, 400), ("vanished", [("step", 0), ("step", 1)], [("gate", 0)]))

    def test_forty_gates_of_four_hundred_rows(self):
        # Rows without end that fit no code come to, beside those found.
        graph = ring(("made",) * 5)
        idle = tuple((31, (0b10101, 0b01010)[row % 2]) for row in range(400))
        net = tuple((wire, rises + (idle,) * 3, falls + (idle,) * 3) for wire, rises, falls in found(graph, 10))
        self.assertEqual(asked(looked, graph, net, 400), asked(looked, graph, found(graph, 10), 400))

    def test_a_net_taken_apart(self):
        """[24]"""
        net = ((2, (((1, 1), (2, 2)),), (((3, 0),),)),)
        for graph in (JOIN, SIDE, CHOICE):
            self.looked_at_all(graph, net)
            self.looked_at_all(graph, apart(net))
        # One gate looks at both of c's levels; of the two that it is taken apart into, one comes up and goes down again.
        net = ((2, (((7, 1), (7, 3)),), (((5, 4),),)),)
        self.assertEqual(looked(SIDE, net, 400)[0], "calm")
        told = looked(SIDE, apart(net), 400)
        self.check(SIDE, apart(net), told)
        self.assertEqual(told[0], "vanished")


class FoundNets(Checked):
    """[2], [23]"""

    def test_looked_through(self):
        calm = 0
        for graph in calm_graphs(20, 30) + sound_graphs(60):
            net = asked(found, graph, 400)
            if net != () and not isinstance(net[0], tuple):
                continue
            told = asked(looked, graph, net, 400)
            self.assertIn(told[0], ("calm", TooMany), shown(graph))
            calm += told[0] == "calm" and made(graph) != []
        self.assertGreater(calm, 60)

    def test_drawn_orders(self):
        for seed, graph in enumerate(calm_graphs(12)):
            net = found(graph, 400)
            come = {stand[:2] for stand in stands(graph, 400)}
            for turn in range(3):
                self.go_along(graph, net, come, Draw(100 * seed + turn), 60)

    def test_drawn_orders_of_drawn_graphs(self):
        for seed, graph in enumerate(sound_graphs(60)):
            net = asked(found, graph, 400)
            if net == () or isinstance(net[0], tuple):
                self.go_along(graph, net, {stand[:2] for stand in stands(graph, 400)}, Draw(seed), 40)

    def test_slow_gates_and_slow_world(self):
        # The moves of one kind come as late as they can.
        for graph in calm_graphs(6):
            net = found(graph, 400)
            for order in (("step", "wire", "gate"), ("wire", "gate", "step"), ("gate", "wire", "step")):
                play = Play(graph, net)
                for turn in range(60):
                    moves = sorted(play.moves(), key=lambda move: order.index(move[0]))
                    if moves:
                        self.assertIsNone(play.go(moves[0]), shown(graph))

    def go_along(self, graph, net, come, draw, turns):
        play = Play(graph, net)
        for turn in range(turns):
            self.assertIn(play.stand(), come)
            let = steps_at(graph, play.stand())
            moves = play.moves()
            for step in let:
                self.comes_by(graph, play, step)
            if let:
                self.assertNotEqual(moves, [], shown(graph))
            if not moves:
                return
            move = moves[draw.below(len(moves))]
            self.one_step_let(graph, play, move)

    def one_step_let(self, graph, play, move):
        """The move is made, and moves no wire but by a step that the graph lets."""
        before = play.stand()
        self.assertIsNone(play.go(move), (shown(graph), move))
        if move[0] == "gate":
            self.assertEqual(play.stand(), before)
        else:
            ahead = [behind(graph, before, k) for k in steps_at(graph, before) if move in (("step", k), ("wire", graph[1][k][0]))]
            self.assertIn(play.stand(), ahead)

    def comes_by(self, graph, play, step):
        """A step that the graph lets can be made: by itself, or by a gate down, a gate up and the wire."""
        wire, up = graph[1][step][:2]
        twin = play.twin()
        if wire not in made(graph):
            self.assertIn(("step", step), twin.moves())
            return
        rise = 2 * made(graph).index(wire)
        toward, away = (rise, rise + 1) if up else (rise + 1, rise)
        moves = [("gate", away)] * twin.level(away) + [("gate", toward)] * (not twin.level(toward)) + [("wire", wire)]
        for move in moves:
            self.assertTrue(can(graph, twin.stand(), step))
            self.assertIsNone(twin.go(move), (shown(graph), move))
        self.assertEqual(twin.stand(), behind(graph, play.stand(), step))

    def test_words_and_program_alike(self):
        for graph in calm_graphs(4):
            net = found(graph, 400)
            play, words, draw = Play(graph, net), WordPlay(graph, net), Draw(6)
            for turn in range(60):
                self.assertEqual(play.moves(), words.moves())
                if words.moves():
                    move = words.moves()[draw.below(len(words.moves()))]
                    self.assertEqual(play.go(move), words.go(move))


if __name__ == "__main__":
    unittest.main()

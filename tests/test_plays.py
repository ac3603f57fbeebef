import copy
import unittest

from calmwires.errors import NoMove
from calmwires.gates import found
from calmwires.graphs import made
from calmwires.plays import Play, apart
from calmwires.texts import read, shown
from tests.samples import (
    CALM_PATCHES, CHOICE, FOLLOW, GIVE_BACK, JOIN, LONE, NEST, Draw, WordPlay, asked, calm_graphs, nets_for, ring,
    sound_graphs,
)

ALWAYS = ((0, 0),)
# FOLLOW's b looks at a alone: its gates may be late, and then go down once.
PLAIN = ((1, (((1, 1),),), (((1, 0),),)),)
# LONE's n has no step, but a rise gate that is up where a is.
ASTRAY = ((0, (((2, 2),),), ()),)

# Five made wires that wait for nothing but themselves, and a given one.
FIVE = read(
    "made a\nmade b\ngiven x\nmade c\nmade d\nmade e\n"
    "up a : 0 -> 1\ndown a : 1 -> 0\nup b : 2 -> 3\ndown b : 3 -> 2\nup x : 4 -> 5\ndown x : 5 -> 4\n"
    "up c : 6 -> 7\ndown c : 7 -> 6\nup d : 8 -> 9\ndown d : 9 -> 8\nup e : 10 -> 11\ndown e : 11 -> 10\nstart 0 2 4 6 8 10 :"
)


def levels(play, net):
    return [play.level(g) for g in range(many_gates(net))]


def many_gates(net):
    return sum(len(rises) + len(falls) for wire, rises, falls in net)


def state(play, net):
    return (play.stand(), levels(play, net), play.moves())


class Beginning(unittest.TestCase):
    """[19]"""

    def test_by_hand(self):
        play = Play(FOLLOW, PLAIN)
        self.assertEqual(play.stand(), (1, 0))
        self.assertIs(type(play.stand()), tuple)
        self.assertIs(play.level(0), False)
        self.assertIs(play.level(1), True)
        play = Play(FOLLOW[:2] + (2, 1), PLAIN)
        self.assertEqual(play.stand(), (2, 1))
        self.assertEqual(levels(play, PLAIN), [True, False])

    def test_the_number_of_a_gate(self):
        # Wire by wire, the rises ahead of the falls: each gate by itself is the one that is up.
        for chosen in range(7):
            gates = [ALWAYS if g == chosen else () for g in range(7)]
            net = ((1, tuple(gates[:2]), tuple(gates[2:3])), (2, tuple(gates[3:4]), tuple(gates[4:])))
            self.assertEqual(levels(Play(GIVE_BACK, net), net), [g == chosen for g in range(7)])

    def test_wires_without_gates(self):
        net = ((1, (), ()), (2, (), (ALWAYS,)))
        play = Play(GIVE_BACK, net)
        self.assertEqual(state(play, net), ((81, 0), [True], [("step", 0)]))

    def test_no_made_wire(self):
        play = Play(ring(("given", "given")), ())
        self.assertEqual((play.stand(), play.moves()), ((1, 0), [("step", 0)]))
        self.assertIsNone(play.go(("step", 0)))
        self.assertEqual((play.stand(), play.moves()), ((2, 1), [("step", 1)]))

    def test_a_row_and_several(self):
        net = ((2, (((3, 3), (3, 0)), ((7, 1),)), (((4, 4), (1, 1)), ((0, 0),))),)
        for marks, code, high in ((3, 0, [True, False, False, True]), (6, 1, [False, True, True, True]),
                                  (12, 3, [True, False, True, True]), (192, 4, [True, False, True, True])):
            self.assertEqual(levels(Play(JOIN[:2] + (marks, code), net), net), high)

    def test_drawn(self):
        draw = Draw(1)
        for graph in sound_graphs(40):
            for net in nets_for(draw, graph):
                play, words = Play(graph, net), WordPlay(graph, net)
                self.assertEqual(state(play, net), (words.stand(), words.levels, words.moves()), shown(graph))


class Moves(unittest.TestCase):
    """[20]"""

    def test_by_hand(self):
        play = Play(FOLLOW, PLAIN)
        self.assertEqual(play.moves(), [("step", 0)])
        self.assertIsNone(play.go(("step", 0)))
        self.assertEqual(play.moves(), [("gate", 0), ("gate", 1)])
        self.assertIsNone(play.go(("gate", 0)))
        self.assertEqual((play.moves(), levels(play, PLAIN)), ([("gate", 1)], [True, True]))
        self.assertIsNone(play.go(("gate", 1)))
        self.assertEqual((play.moves(), levels(play, PLAIN)), ([("wire", 1)], [True, False]))
        self.assertEqual(play.stand(), (2, 1))
        self.assertIsNone(play.go(("wire", 1)))
        self.assertEqual((play.moves(), play.stand()), ([("step", 2)], (4, 3)))
        self.assertEqual(levels(play, PLAIN), [True, False])

    def test_their_order(self):
        net = tuple((wire, (((32, 32),), ((4, 4),)), (((4, 4), (1, 1)),)) for wire in (0, 1, 3, 4, 5))
        play = Play(FIVE, net)
        play.go(("step", 4))
        self.assertEqual(play.moves(), [("step", 5)] + [("gate", g) for g in (1, 2, 4, 5, 7, 8, 10, 11, 13, 14)])
        for g in (13, 1, 7):
            play.go(("gate", g))
        self.assertEqual(
            play.moves(),
            [("step", 5)] + [("gate", g) for g in (2, 4, 5, 8, 10, 11, 14)] + [("wire", 0), ("wire", 3), ("wire", 5)],
        )

    def test_several_given_steps(self):
        self.assertEqual(Play(CHOICE, found(CHOICE, 7)).moves(), [("step", 0), ("step", 1)])
        self.assertEqual(Play(JOIN, found(JOIN, 8)).moves(), [("step", 0), ("step", 1)])

    def test_a_wire_by_its_gates(self):
        # The gates never change: some, none or both of the rises and falls are up all the time.
        for rises, falls, down, up in (
            ((), (), False, False), ((ALWAYS,), (), True, False), ((), (ALWAYS,), False, True),
            ((ALWAYS,), (ALWAYS,), False, False), (((), ALWAYS), ((),), True, False), ((ALWAYS, ALWAYS), ((), ()), True, False),
            (((),), (ALWAYS, ()), False, True), (((), ()), ((), ALWAYS), False, True), ((ALWAYS, ()), ((), ALWAYS), False, False),
            (((),) * 4, ((),) * 4, False, False), (((),) * 7 + (ALWAYS,), (), True, False), ((), ((),) * 7 + (ALWAYS,), False, True),
        ):
            net = ((0, rises, falls),)
            graph = ring(("made",))
            self.assertEqual(Play(graph, net).moves(), [("wire", 0)] if down else [], net)
            self.assertEqual(Play(graph[:2] + (2, 1), net).moves(), [("wire", 0)] if up else [], net)

    def test_levels_count_and_not_what_they_will_be(self):
        play = Play(ring(("made",)), ((0, (((1, 0),),), (((1, 1),),)),))
        self.assertEqual(play.moves(), [("wire", 0)])
        play.go(("wire", 0))
        self.assertEqual(play.moves(), [("gate", 0), ("gate", 1)])
        twin = play.twin()
        self.assertIsNone(twin.go(("gate", 1)))
        self.assertEqual(twin.moves(), [("gate", 0)])
        self.assertIsNone(play.go(("gate", 0)))
        self.assertEqual(play.moves(), [("gate", 1)])
        self.assertIsNone(play.go(("gate", 1)))
        self.assertEqual(play.moves(), [("wire", 0)])

    def test_a_given_step_of_any_wire_and_no_made_one(self):
        for graph in (GIVE_BACK, NEST):
            net = tuple((wire, (), ()) for wire in made(graph))
            steps = [("step", k) for k in WordPlay(graph, net).let("given")]
            self.assertEqual(Play(graph, net).moves(), steps)

    def test_eight_gates_for_a_wire_and_forty_in_all(self):
        for sides in ((4, 4), (8, 0), (0, 8), (1, 7), (7, 1)):
            net = tuple((w, (((4, 4),),) * sides[0], (((4, 4),),) * sides[1]) for w in (0, 1, 3, 4, 5))
            self.assertEqual(many_gates(net), 40)
            play = Play(FIVE, net)
            self.assertEqual(play.moves(), [("step", 4)])
            self.assertIsNone(play.go(("step", 4)))
            self.assertEqual(play.moves(), [("step", 5)] + [("gate", g) for g in range(40)])
            for g in range(40):
                self.assertIn(play.go(("gate", g)), (None, ("vanished", [("wire", (0, 1, 3, 4, 5)[g // 8])])))
                self.assertEqual(levels(play, net), [True] * (g + 1) + [False] * (39 - g))
            wires = [("wire", wire) for wire in (0, 1, 3, 4, 5)]
            self.assertEqual(play.moves(), [("step", 5)] + (wires if sides[1] == 0 else []))

    def test_gates_of_four_hundred_rows(self):
        rows = tuple((7, code % 4) for code in range(399)) + ((7, 7),)
        net = ((2, (rows,), (((7, 5),) * 400,)),)
        self.assertEqual(levels(Play(JOIN, net), net), [True, False])
        self.assertEqual(levels(Play(JOIN[:2] + (48, 7), net), net), [True, False])
        self.assertEqual(levels(Play(JOIN[:2] + (144, 5), net), net), [False, True])


class Go(unittest.TestCase):
    """[21]"""

    def test_astray(self):
        play = Play(LONE, ASTRAY)
        self.assertIsNone(play.go(("step", 0)))
        self.assertIsNone(play.go(("gate", 0)))
        before = state(play, ASTRAY)
        self.assertEqual(before, ((2, 2), [True], [("step", 1), ("wire", 0)]))
        for turn in range(3):
            self.assertEqual(play.go(("wire", 0)), ("astray", 0))
            self.assertEqual(state(play, ASTRAY), before)

    def test_astray_though_the_wire_has_steps(self):
        # b wants to rise too early, and to fall too early: its steps are there but can't be done.
        early = ((1, (((2, 0),),), (((2, 2),),)),)
        play = Play(FOLLOW, early)
        self.assertEqual(play.moves(), [("step", 0), ("wire", 1)])
        self.assertEqual(play.go(("wire", 1)), ("astray", 1))
        self.assertEqual(state(play, early), ((1, 0), [True, False], [("step", 0), ("wire", 1)]))
        play = Play(FOLLOW[:2] + (4, 3), early)
        self.assertEqual(play.go(("wire", 1)), ("astray", 1))
        self.assertEqual(play.stand(), (4, 3))
        self.assertIsNone(play.go(("step", 2)))
        self.assertIsNone(play.go(("wire", 1)))
        self.assertEqual(play.stand(), (1, 0))

    def test_a_step_in_the_other_direction_is_astray(self):
        # The graph lets b fall; b is up, so only a fall gate calls it.
        graph = read("made b\ngiven a\nup b : 0 -> 1\nup a : 1 -> 2\nstart 0 :")
        play = Play(graph, ((0, (((1, 0),),), (((1, 1),),)),))
        self.assertIsNone(play.go(("wire", 0)))
        self.assertIsNone(play.go(("gate", 0)))
        self.assertIsNone(play.go(("gate", 1)))
        self.assertEqual(play.moves(), [("step", 1), ("wire", 0)])
        self.assertEqual(play.go(("wire", 0)), ("astray", 0))
        self.assertEqual(play.stand(), (2, 1))

    def test_a_gate_vanishes(self):
        play = Play(LONE, ASTRAY)
        play.go(("step", 0))
        self.assertEqual(play.go(("step", 1)), ("vanished", [("gate", 0)]))
        self.assertEqual(state(play, ASTRAY), ((1, 0), [False], [("step", 0)]))

    def test_a_wire_vanishes(self):
        play = Play(LONE, ASTRAY)
        for move in (("step", 0), ("gate", 0), ("step", 1)):
            self.assertIsNone(play.go(move))
        self.assertEqual(play.moves(), [("step", 0), ("gate", 0), ("wire", 0)])
        self.assertEqual(play.go(("gate", 0)), ("vanished", [("wire", 0)]))
        self.assertEqual(state(play, ASTRAY), ((1, 0), [False], [("step", 0)]))

    def test_a_wire_vanishes_by_a_gate_against_it(self):
        net = ((0, (ALWAYS,), (((2, 2),),)),)
        play = Play(LONE, net)
        self.assertIsNone(play.go(("step", 0)))
        self.assertEqual(play.go(("gate", 1)), ("vanished", [("wire", 0)]))
        self.assertEqual(state(play, net), ((2, 2), [True, True], [("step", 1)]))

    def test_several_gates_vanish_in_their_order(self):
        net = tuple((wire, (((4, 4),), ()), (((4, 4),),)) for wire in (0, 1, 3, 4, 5))
        play = Play(FIVE, net)
        play.go(("step", 4))
        play.go(("gate", 5))
        gone = [("gate", g) for g in (0, 2, 3, 6, 8, 9, 11, 12, 14)]
        self.assertEqual(play.go(("step", 5)), ("vanished", gone))
        self.assertEqual(play.moves(), [("step", 4), ("gate", 5)])

    def test_gates_vanish_by_a_wire(self):
        # Wire a rises while two gates of b were to go up.
        net = ((0, (ALWAYS,), ()), (1, (((5, 4),), ((5, 4),)), ()), (3, (), ()), (4, (), ()), (5, (), ()))
        play = Play(FIVE, net)
        self.assertIsNone(play.go(("step", 4)))
        self.assertEqual(play.moves(), [("step", 5), ("gate", 1), ("gate", 2), ("wire", 0)])
        self.assertEqual(play.go(("wire", 0)), ("vanished", [("gate", 1), ("gate", 2)]))
        self.assertEqual(play.moves(), [("step", 5)])

    def test_what_moved_has_not_vanished(self):
        play = Play(FOLLOW, PLAIN)
        play.go(("step", 0))
        self.assertIsNone(play.go(("gate", 1)))
        self.assertIsNone(play.go(("gate", 0)))
        self.assertIsNone(play.go(("wire", 1)))

    def test_a_step_called_off_has_not_vanished(self):
        play = Play(CHOICE, found(CHOICE, 7))
        self.assertIsNone(play.go(("step", 1)))
        self.assertNotIn(("step", 0), play.moves())

    def test_of_several_steps_the_one_that_can_be_done(self):
        for step, stand in ((0, (1 << 3, 5)), (1, (1 << 4, 6))):
            play = Play(CHOICE, found(CHOICE, 7))
            play.go(("step", step))
            play.go(("gate", 0))
            self.assertIsNone(play.go(("wire", 2)))
            self.assertEqual(play.stand(), stand)

    def test_no_move(self):
        draw = Draw(4)
        for graph in (FOLLOW, CHOICE, GIVE_BACK, LONE, FIVE, NEST, ring(("given",)), ring(("made",) * 10)):
            for net in nets_for(draw, graph):
                play = Play(graph, net)
                for turn in range(6):
                    self.refused(play, net)
                    if play.moves():
                        play.go(play.moves()[draw.below(len(play.moves()))])

    def refused(self, play, net):
        before = state(play, net)
        for word in ("step", "gate", "wire"):
            for number in [-1000, 64, 100, 10 ** 30, -10 ** 30, *range(-42, 43)]:
                if (word, number) not in before[2]:
                    with self.assertRaises(NoMove):
                        play.go((word, number))
        self.assertEqual(state(play, net), before)

    def test_no_move_by_hand(self):
        play = Play(FOLLOW, PLAIN)
        # A step that can't be done, one of a made wire, a gate that has its level, a wire that isn't called, a given one.
        for move in (("step", 2), ("step", 1), ("step", 4), ("step", -4), ("gate", 0), ("gate", 1), ("gate", 2), ("wire", 1),
                     ("wire", 0), ("wire", 2), ("wire", -1)):
            self.assertEqual(asked(play.go, move), (NoMove, None))
            self.assertEqual(state(play, PLAIN), ((1, 0), [False, True], [("step", 0)]))
        play.go(("step", 0))
        self.assertEqual(asked(play.go, ("step", 1)), (NoMove, None))
        self.assertEqual(asked(play.go, ("wire", 1)), (NoMove, None))
        self.assertEqual(play.stand(), (2, 1))

    def test_drawn(self):
        told, draw = {}, Draw(2)
        for graph in sound_graphs(60):
            for net in nets_for(draw, graph):
                play, words = Play(graph, net), WordPlay(graph, net)
                for turn in range(25):
                    if not words.moves():
                        break
                    move = words.moves()[draw.below(len(words.moves()))]
                    answer = play.go(move)
                    self.assertEqual(answer, words.go(move), (shown(graph), net))
                    self.assertEqual(state(play, net), (words.stand(), words.levels, words.moves()), (shown(graph), net))
                    kind = answer and (answer[0], len(answer[1]) if answer[0] == "vanished" else 1)
                    told[kind] = told.get(kind, 0) + 1
        self.assertTrue(all(told.get(kind, 0) > 10 for kind in (None, ("astray", 1), ("vanished", 1), ("vanished", 2))), told)


class Twin(unittest.TestCase):
    """[21]"""

    def test_each_goes_its_own_way(self):
        play = Play(FOLLOW, PLAIN)
        play.go(("step", 0))
        twin = play.twin()
        self.assertIsInstance(twin, Play)
        self.assertEqual(state(twin, PLAIN), ((2, 1), [False, True], [("gate", 0), ("gate", 1)]))
        play.go(("gate", 0))
        self.assertEqual(state(twin, PLAIN), ((2, 1), [False, True], [("gate", 0), ("gate", 1)]))
        twin.go(("gate", 1))
        third = twin.twin()
        third.go(("gate", 0))
        third.go(("wire", 1))
        self.assertEqual(state(play, PLAIN), ((2, 1), [True, True], [("gate", 1)]))
        self.assertEqual(state(twin, PLAIN), ((2, 1), [False, False], [("gate", 0)]))
        self.assertEqual(state(third, PLAIN), ((4, 3), [True, False], [("step", 2)]))

    def test_drawn(self):
        draw = Draw(3)
        for graph in sound_graphs(20):
            for net in nets_for(draw, graph)[-2:]:
                pairs = [(Play(graph, net), WordPlay(graph, net))]
                for turn in range(40):
                    play, words = pairs[draw.below(len(pairs))]
                    if draw.below(5) == 0:
                        pairs.append((play.twin(), words.twin()))
                    elif words.moves():
                        move = words.moves()[draw.below(len(words.moves()))]
                        self.assertEqual(play.go(move), words.go(move))
                for play, words in pairs:
                    self.assertEqual(state(play, net), (words.stand(), words.levels, words.moves()))


class Own(unittest.TestCase):
    """[1]"""

    def test_lists_are_the_askers_own(self):
        play = Play(LONE, ASTRAY)
        play.go(("step", 0))
        told = play.moves()
        told.clear()
        self.assertEqual(play.moves(), [("step", 1), ("gate", 0)])
        self.assertIsNot(play.moves(), play.moves())
        twin = play.twin()
        gone = play.go(("step", 1))[1]
        gone.append("more")
        self.assertEqual(play.moves(), [("step", 0)])
        self.assertEqual(twin.go(("step", 1)), ("vanished", [("gate", 0)]))

    def test_nothing_is_kept_between_plays(self):
        graphs = sound_graphs(10)
        nets = [Draw(7).net(graph) for graph in graphs]
        kept = copy.deepcopy((graphs, nets))
        first = [self.gone_along(graph, net) for graph, net in zip(graphs, nets)]
        again = [self.gone_along(graph, net) for graph, net in reversed(list(zip(graphs, nets)))]
        self.assertEqual(list(reversed(again)), first)
        self.assertEqual((graphs, nets), kept)

    def gone_along(self, graph, net):
        play, draw, told = Play(graph, net), Draw(5), []
        while play.moves() and len(told) < 20:
            told.append(play.go(play.moves()[draw.below(len(play.moves()))]))
        return (told, state(play, net))

    def test_a_play_beside_another(self):
        one, other = Play(FOLLOW, PLAIN), Play(FOLLOW, PLAIN)
        one.go(("step", 0))
        one.go(("gate", 0))
        self.assertEqual(state(other, PLAIN), ((1, 0), [False, True], [("step", 0)]))


class Apart(unittest.TestCase):
    """[24]"""

    def test_by_hand(self):
        rows = [(3, level) for level in range(4)]
        net = (
            (1, ((rows[0], rows[1]), (rows[2],)), ((), (rows[3], rows[3], rows[0]))),
            (4, ((),), ()),
            (7, (ALWAYS,), ((rows[2], rows[1], (0, 0)),)),
        )
        kept = copy.deepcopy(net)
        self.assertEqual(apart(net), (
            (1, ((rows[0],), (rows[1],), (rows[2],)), ((rows[3],), (rows[3],), (rows[0],))),
            (4, (), ()),
            (7, (ALWAYS,), ((rows[2],), (rows[1],), ALWAYS)),
        ))
        self.assertEqual(net, kept)

    def test_a_net_without_wires(self):
        self.assertEqual(apart(()), ())

    def test_its_kind(self):
        for graph in calm_graphs(5):
            net = apart(found(graph, 400))
            self.assertIs(type(net), tuple)
            for wire, rises, falls in net:
                self.assertEqual((type(wire), type(rises), type(falls)), (int, tuple, tuple))
                self.assertTrue(all(type(gate) == tuple and len(gate) == 1 for gate in rises + falls))
                self.assertTrue(all(type(row) == tuple for gate in rises + falls for row in gate))
            self.assertEqual([part[0] for part in net], made(graph))

    def test_twice_is_once(self):
        for graph in [CHOICE] + [Draw(seed).quilt(CALM_PATCHES) for seed in range(5)]:
            net = apart(Draw(1).net(graph))
            self.assertEqual(apart(net), net)

    def test_drawn(self):
        for seed, graph in enumerate(sound_graphs(20)):
            net = Draw(seed).net(graph)
            self.assertEqual(
                apart(net),
                tuple((w, *(tuple((row,) for gate in side for row in gate) for side in sides)) for w, *sides in net),
            )

    def test_beyond_the_bounds(self):
        gate = tuple((1023, code) for code in range(1024))
        net = tuple((wire, (gate,) * 9, (gate,)) for wire in range(10))
        self.assertEqual([(len(rises), len(falls)) for wire, rises, falls in apart(net)], [(9 * 1024, 1024)] * 10)


if __name__ == "__main__":
    unittest.main()

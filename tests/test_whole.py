"""[1] and [2] over the whole program: a text, its net and the net played; a clash, and the wire that leaves none."""

import copy
import unittest

from calmwires.calls import called_off, sound, wants
from calmwires.clashes import clashes, need_none
from calmwires.desk import answered, shown_net
from calmwires.errors import CalmError, Clash, TooMany
from calmwires.gates import found, good_fall, good_rise
from calmwires.graphs import bits, made, names, ones, steps_of
from calmwires.looking import looked
from calmwires.plays import Play, apart
from calmwires.putting import parted, parts, put_in
from calmwires.stands import behind, can, stands, steps_at, way
from calmwires.texts import read, shown
from tests.samples import CALM_PATCHES, COUNT, FOLLOW, NEST, Draw, asked, calm_graphs, mixed, plays_by_words, sound_graphs


def gone(graph, steps):
    """The stand that steps lead to from the beginning."""
    stand = graph[2:]
    for step in steps:
        stand = behind(graph, stand, step)
    return stand


class Whole(unittest.TestCase):
    def test_a_text_its_net_and_the_net_played(self):
        for seed, graph in enumerate(calm_graphs(10)):
            graph = read(shown(graph))
            net = found(graph, 400)
            rows = answered(shown(graph), 400).split("\n")
            self.assertEqual(rows, [f"calm {len(stands(graph, 400))}"] + shown_net(graph, net).split("\n"))
            self.played(graph, net, Draw(seed))

    def played(self, graph, net, draw):
        """No move is astray, nothing vanishes, and the wires go through an order that the graph lets."""
        play, stand = Play(graph, net), graph[2:]
        for turn in range(80):
            moves = play.moves()
            self.assertTrue(moves or steps_at(graph, stand) == [], shown(graph))
            if not moves:
                return
            self.assertIsNone(play.go(moves[draw.below(len(moves))]), shown(graph))
            if play.stand() != stand:
                self.assertIn(play.stand(), [behind(graph, stand, step) for step in steps_at(graph, stand)])
                stand = play.stand()

    def test_all_stands_are_come_to_in_play(self):
        # Whichever way the graph goes, the net goes it, too.
        for graph in calm_graphs(10, 40) + [graph for graph in sound_graphs(30) if clashes(graph, 400) == []]:
            net = found(graph, 400)
            first = Play(graph, net)
            come = {first.stand(): first}
            for stand in stands(graph, 400)[1:]:
                before = stands(graph, 400)[stand[2]][:2]
                come[stand[:2]] = self.brought(graph, come[before].twin(), stand[3])
                self.assertEqual(come[stand[:2]].stand(), stand[:2])

    def brought(self, graph, play, step):
        wire = graph[1][step][0]
        if wire not in made(graph):
            self.assertIsNone(play.go(("step", step)))
            return play
        rise = 2 * made(graph).index(wire)
        for turn in range(3):
            own = [move for move in play.moves() if move in (("gate", rise), ("gate", rise + 1), ("wire", wire))]
            before = play.stand()
            self.assertIsNone(play.go(own[-1]))
            if play.stand() != before:
                return play
        self.fail("more than three moves")

    def test_a_clash_and_its_two_ways(self):
        many = 0
        for graph in [COUNT, NEST] + sound_graphs(80):
            try:
                found(graph, 400)
            except Clash as clash:
                one, other = gone(graph, clash.one), gone(graph, clash.other)
                self.assertEqual(one[1], other[1])
                self.assertNotEqual(wants(graph, one, clash.wire), wants(graph, other, clash.wire))
                self.assertIn(clash.wire, made(graph))
                many += 1
        self.assertGreater(many, 40)

    def test_a_wire_put_in_and_its_net_played(self):
        many = 0
        for seed, graph in enumerate([NEST] + [Draw(seed).cycle() for seed in range(120)]):
            rows = answered(shown(graph), 80).split("\n")
            if not rows[-1].startswith("put ") or rows[-1] == "put none":
                continue
            first, second = [int(word) for word in rows[1].split(" ")[1:]]
            new = put_in(graph, "own", first, second)
            self.assertTrue(parts(graph, "own", first, second, 80))
            self.assertTrue(answered(shown(new), 80).startswith("calm "))
            net = found(new, 80)
            self.played(new, net, Draw(seed))
            self.assertIn(asked(looked, new, net, 400)[0], ("calm", TooMany))
            self.old_order(graph, new, net, Draw(seed))
            many += 1
        self.assertGreater(many, 15)

    def old_order(self, graph, new, net, draw):
        """With the new wire left out, the wires go through an order of the old graph."""
        play, stand = Play(new, net), graph[2:]
        for turn in range(60):
            moves = play.moves()
            if not moves:
                return
            self.assertIsNone(play.go(moves[draw.below(len(moves))]))
            code = play.stand()[1] & ~(1 << len(graph[0]))
            if code != stand[1]:
                ahead = [behind(graph, stand, step) for step in steps_at(graph, stand)]
                ahead = [after for after in ahead if after[1] == code]
                self.assertEqual(len(ahead), 1)
                stand = ahead[0]

    def test_any_net_is_calm_or_a_way_is_told(self):
        draw = Draw(3)
        for graph in sound_graphs(30):
            net = draw.net(graph)
            many, faults = plays_by_words(graph, net, 200)
            told = asked(looked, graph, net, 200)
            if many is not None:
                self.assertEqual(told[0] == "calm", not faults)


class Kept(unittest.TestCase):
    """[1]"""

    def asks(self, graph):
        """What each function of the program tells of a graph, one behind the other."""
        net = Draw(2).net(graph)
        text = shown(graph)
        plain = [read(text), text, names(graph), made(graph), steps_of(graph, 0, True), bits([3, 1, 3]), ones(11)]
        refused = [
            asked(ask, graph, 60) for ask in (stands, sound, clashes, need_none, found)
        ] + [asked(parted, graph, "q", 60) if len(graph[1]) < 9 else None]
        wires = [
            [wants(graph, graph[2:], wire), asked(good_rise, graph, 60, wire, ((1, 1),)), asked(good_fall, graph, 60, wire, ((1, 1),))]
            for wire in made(graph)
        ]
        steps = [(can(graph, graph[2:], k), called_off(graph, graph[2:], k, 0)) for k in range(1, len(graph[1]))]
        shows = [shown_net(graph, net), apart(net), answered(text, 60)]
        plays = [asked(looked, graph, net, 60), Play(graph, net).moves()] if isinstance(refused[1], list) else []
        return [plain, refused, wires, steps, shows, plays]

    def test_the_same_whatever_was_asked_between(self):
        graphs = mixed(25) + [Draw(seed).quilt(CALM_PATCHES, 40) for seed in range(5)] + [FOLLOW, COUNT, NEST]
        kept = copy.deepcopy(graphs)
        told = [self.asks(graph) for graph in graphs]
        again = [self.asks(graph) for graph in reversed(graphs)]
        self.assertEqual(list(reversed(again)), told)
        self.assertEqual(graphs, kept)

    def test_lists_that_are_told_are_new_ones(self):
        told = self.asks(FOLLOW)
        kept = copy.deepcopy(told)
        self.spoil(told)
        self.assertEqual(self.asks(FOLLOW), kept)
        come = stands(FOLLOW, 4)
        steps = way(come, 3)
        steps.append(7)
        self.assertEqual(way(come, 3), [0, 1, 2])
        self.assertEqual(come, stands(FOLLOW, 4))

    def spoil(self, told):
        """Each list within is emptied."""
        for part in told if isinstance(told, (list, tuple)) else ():
            self.spoil(part)
        if isinstance(told, list):
            told.clear()

    def test_a_refusal_is_the_askers_own(self):
        for ask in (need_none, found):
            with self.assertRaises(CalmError) as first:
                ask(COUNT, 400)
            first.exception.other.append(9)
            with self.assertRaises(Clash) as second:
                ask(COUNT, 400)
            self.assertEqual((second.exception.one, second.exception.other), ([], [0, 1]))


if __name__ == "__main__":
    unittest.main()

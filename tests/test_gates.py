import copy
import unittest

from calmwires.calls import sound
from calmwires.clashes import clashes, need_none
from calmwires.errors import Broken, CalledOff, Clash, Crowded, TooMany
from calmwires.gates import found, good_fall, good_rise
from calmwires.graphs import made
from calmwires.stands import stands
from calmwires.texts import read, shown
from tests.samples import (
    CALM_PATCHES, CHOICE, COUNT, EARLY, FOLLOW, GIVE_BACK, JOIN, LONE, Draw, asked, called_by_words, good_by_words, mixed,
    ring,
)

# Three given wires go through ten stands in turn.
TURNS = read(
    "given x\ngiven y\ngiven z\n"
    "up x : 0 -> 1\ndown x : 1 -> 2\nup y : 2 -> 3\nup x : 3 -> 4\ndown x : 4 -> 5\ndown y : 5 -> 6\n"
    "up z : 6 -> 7\nup x : 7 -> 8\ndown x : 8 -> 9\ndown z : 9 -> 0\nstart 0 :"
)

# FOLLOW, and beside it a given wire that goes up and down as it likes.
BESIDE = read(shown(FOLLOW).replace("made b\n", "made b\ngiven x\n").replace("start 0", "up x : 8 -> 9\ndown x : 9 -> 8\nstart 0 8"))

ALWAYS = ((0, 0),)


def gate_at(wires, codes):
    return tuple(((1 << wires) - 1, code) for code in codes)


def subsets(many):
    return [[code for code in range(many) if chosen >> code & 1] for chosen in range(1 << many)]


class Good(unittest.TestCase):
    """[17]"""

    def good_ones(self, good, graph, wire):
        """All sets of codes at which a good gate may be up."""
        wires = len(graph[0])
        told = [(codes, good(graph, 400, wire, gate_at(wires, codes))) for codes in subsets(1 << wires)]
        self.assertEqual({type(answer) for codes, answer in told}, {bool})
        return [codes for codes, answer in told if answer]

    def test_follow(self):
        self.assertEqual(self.good_ones(good_rise, FOLLOW, 1), [[1], [1, 3]])
        self.assertEqual(self.good_ones(good_fall, FOLLOW, 1), [[2], [0, 2]])

    def test_join(self):
        # Where the wire is up and stays (codes 7, then 5 or 6) the gate may only go down.
        self.assertEqual(self.good_ones(good_rise, JOIN, 2), [[3], [3, 7], [3, 5, 7], [3, 6, 7], [3, 5, 6, 7]])
        self.assertEqual(self.good_ones(good_fall, JOIN, 2), [[4], [0, 4], [0, 1, 4], [0, 2, 4], [0, 1, 2, 4]])

    def test_one_wire(self):
        self.assertEqual(self.good_ones(good_rise, ring(("made",)), 0), [[0]])
        self.assertEqual(self.good_ones(good_fall, ring(("made",)), 0), [[1]])

    def test_a_and_b_and_c_alone(self):
        for good, wire, codes, broken in (
            (good_rise, 2, [], "a"), (good_rise, 2, [7], "a"), (good_rise, 2, [5, 6, 7], "a"),
            (good_rise, 2, [3, 0], "b"), (good_rise, 2, [3, 1], "b"), (good_rise, 2, [3, 2, 7], "b"),
            (good_rise, 2, [3, 4], "b"), (good_rise, 2, [3, 4, 5, 6, 7], "b"),
            (good_rise, 2, [3, 5], "c"), (good_rise, 2, [3, 6], "c"), (good_rise, 2, [3, 5, 6], "c"),
            (good_fall, 2, [], "a"), (good_fall, 2, [0], "a"), (good_fall, 2, [0, 1, 2], "a"),
            (good_fall, 2, [4, 7], "b"), (good_fall, 2, [4, 6], "b"), (good_fall, 2, [4, 5, 0], "b"),
            (good_fall, 2, [4, 3], "b"), (good_fall, 2, [0, 1, 2, 3, 4], "b"),
            (good_fall, 2, [4, 1], "c"), (good_fall, 2, [4, 2], "c"), (good_fall, 2, [4, 1, 2], "c"),
        ):
            gate = gate_at(3, codes)
            self.assertEqual(good_by_words(JOIN, stands(JOIN, 8), wire, gate, good == good_rise), {broken})
            self.assertIs(good(JOIN, 8, wire, gate), False, codes)

    def test_rows_with_little_care(self):
        self.assertIs(good_rise(FOLLOW, 4, 1, ((1, 1),)), True)
        self.assertIs(good_fall(FOLLOW, 4, 1, ((1, 0),)), True)
        self.assertIs(good_rise(FOLLOW, 4, 1, ((1, 0),)), False)
        self.assertIs(good_fall(FOLLOW, 4, 1, ((1, 1),)), False)
        self.assertIs(good_rise(JOIN, 8, 2, ((3, 3), (5, 5), (6, 6))), True)
        self.assertIs(good_fall(JOIN, 8, 2, ((3, 0), (5, 0), (6, 0))), True)
        for gate in ((), ALWAYS):
            self.assertIs(good_rise(FOLLOW, 4, 1, gate), False)
            self.assertIs(good_fall(FOLLOW, 4, 1, gate), False)

    def test_alike_rows_do_no_harm(self):
        self.assertIs(good_rise(FOLLOW, 4, 1, ((3, 1), (3, 1))), True)

    def test_round_and_round(self):
        # The third wire goes up and down while b stays: the gate must not look at it there.
        self.assertEqual(self.good_ones(good_rise, BESIDE, 1), [[1, 5], [1, 3, 5, 7]])
        self.assertEqual(self.good_ones(good_fall, BESIDE, 1), [[2, 6], [0, 2, 4, 6]])

    def test_codes_that_are_not_come_to_are_free(self):
        self.assertIs(good_rise(CHOICE, 7, 2, ((5, 1), (6, 2))), True)
        self.assertIs(good_rise(CHOICE, 7, 2, ((7, 1), (7, 2), (7, 3), (7, 7))), True)
        self.assertIs(good_rise(CHOICE, 7, 2, ((5, 1),)), False)

    def test_a_wire_without_steps(self):
        for gate, rise, fall in (
            ((), True, True), (ALWAYS, False, True), (((1, 1),), True, True), (((1, 0),), False, True),
            (((2, 2),), False, False), (((2, 0),), False, False),
        ):
            self.assertEqual((good_rise(LONE, 2, 0, gate), good_fall(LONE, 2, 0, gate)), (rise, fall), gate)
            turned = tuple((care, level ^ 1 & care) for care, level in gate)
            high = LONE[:3] + (1,)
            self.assertEqual((good_rise(high, 2, 0, turned), good_fall(high, 2, 0, turned)), (fall, rise), gate)

    def test_a_wire_that_only_rises(self):
        graph = read("given a\nmade b\nup a : 0 -> 1\nup b : 1 -> 2\nstart 0 :")
        self.assertEqual(self.good_ones(good_rise, graph, 1), [[1], [1, 2], [1, 3], [1, 2, 3]])
        self.assertEqual(self.good_ones(good_fall, graph, 1), [[], [0], [2], [0, 2]])

    def test_tokens_given_back(self):
        self.assertIs(good_rise(GIVE_BACK, 8, 1, ((1, 1),)), True)
        self.assertIs(good_fall(GIVE_BACK, 8, 1, ((1, 0),)), True)
        self.assertIs(good_rise(GIVE_BACK, 8, 1, ((5, 1),)), False)

    def test_a_clash_is_no_refusal(self):
        self.assertEqual(self.good_ones(good_rise, COUNT, 1), [])
        self.assertEqual(self.good_ones(good_fall, COUNT, 1), [])
        # A wire beside those that clash may have good gates.
        graph = read(
            shown(COUNT).replace("made b\n", "made b\nmade c\n").replace("start 0", "up c : 8 -> 9\ndown c : 9 -> 8\nstart 0 8")
        )
        self.assertNotEqual(clashes(graph, 400), [])
        self.assertIs(good_rise(graph, 12, 2, ((4, 0),)), True)
        self.assertIs(good_fall(graph, 12, 2, ((4, 4),)), True)

    def test_refusals(self):
        for rows, what in (
            ("made a\ngiven b\nup b : 0 -> 1\nup a : 1 -> 2\nup a : 2 -> 3\nstart 0 :", (Broken, [0, 1, 2])),
            ("made a\ngiven b\nup b : 0 -> 1\nup a : 1 -> 2\nstart 0 2 :", (Crowded, [0, 1])),
            ("made a\ngiven b\nup b : 0 -> 1\nup a : 1 -> 2\ndown b : 1 -> 3\nstart 0 :", (CalledOff, ([0], 2, 1))),
        ):
            for gate in ((), ALWAYS, ((2, 2),)):
                self.assertEqual(asked(good_rise, read(rows), 400, 0, gate), what)
                self.assertEqual(asked(good_fall, read(rows), 400, 0, gate), what)
        for good, gate in ((good_rise, ((3, 1),)), (good_fall, ((3, 2),))):
            self.assertEqual(asked(good, FOLLOW, 3, 1, gate), (TooMany, None))
            self.assertIs(good(FOLLOW, 4, 1, gate), True)

    def test_drawn(self):
        many = {}
        draw = Draw(9)
        for graph in mixed(150):
            told = asked(sound, graph, 400)
            for wire in made(graph) if isinstance(told, list) else []:
                for up in (True, False):
                    gate = self.drawn_gate(draw, graph, told, wire, up)
                    broken = "".join(sorted(good_by_words(graph, told, wire, gate, up)))
                    answer = (good_rise if up else good_fall)(graph, 400, wire, gate)
                    self.assertIs(answer, broken == "", (shown(graph), wire, up, gate))
                    many[broken] = many.get(broken, 0) + 1
        self.assertTrue(all(many.get(broken, 0) > 20 for broken in ("", "a", "b", "c")), many)

    def drawn_gate(self, draw, graph, told, wire, up):
        """Rows for where the wire is called, and for some stands where it has moved, at times one too few or many."""
        calling = [stand[1] for stand in told if called_by_words(graph, stand[:2], wire, up)]
        back = [stand[1] for stand in told if called_by_words(graph, stand[:2], wire, not up)]
        moved = [stand[1] for stand in told if (stand[1] >> wire & 1) == up and stand[1] not in back]
        codes = calling + [code for code in moved if draw.below(3) == 0]
        if draw.below(4) == 0:
            codes.append(told[draw.below(len(told))][1])
        if codes and draw.below(4) == 0:
            codes = [code for code in codes if code != codes[draw.below(len(codes))]]
        return gate_at(len(graph[0]), draw.shuffled(codes))


class Found(unittest.TestCase):
    """[16], [18]"""

    def form(self, graph, net):
        self.assertIs(type(net), tuple)
        self.assertEqual([part[0] for part in net], [w for w, (name, kind) in enumerate(graph[0]) if kind == "made"])
        for part in net:
            self.assertEqual((type(part), len(part), type(part[0])), (tuple, 3, int))
            for gates in part[1:]:
                self.assertEqual((type(gates), len(gates)), (tuple, 1))
                self.gate_form(graph, gates[0])

    def gate_form(self, graph, gate):
        self.assertIs(type(gate), tuple)
        self.assertEqual(len(gate), len(set(gate)), "a row is there twice")
        for row in gate:
            self.assertEqual((type(row), [type(part) for part in row]), (tuple, [int, int]))
            self.assertTrue(0 <= row[0] < 1 << len(graph[0]), row)
            self.assertEqual(row[1] & ~row[0], 0, row)

    def good(self, graph, most=400):
        net = found(graph, most)
        self.form(graph, net)
        come = stands(graph, most)
        for wire, rises, falls in net:
            self.assertEqual(good_by_words(graph, come, wire, rises[0], True), set(), shown(graph))
            self.assertEqual(good_by_words(graph, come, wire, falls[0], False), set(), shown(graph))
            self.assertIs(good_rise(graph, most, wire, rises[0]), True)
            self.assertIs(good_fall(graph, most, wire, falls[0]), True)
        return net

    def test_by_hand(self):
        for graph in (FOLLOW, JOIN, CHOICE, GIVE_BACK, LONE, BESIDE, ring(("made",)), ring(("given", "made", "made"))):
            self.good(graph)

    def test_no_made_wire(self):
        self.assertEqual(found(TURNS, 10), ())
        self.assertEqual(found(EARLY, 4), ())

    def test_one_to_ten_wires(self):
        for many in range(1, 11):
            self.good(ring(("made",) * many), 2 * many)
            self.good(ring(tuple("given" if wire % 2 else "made" for wire in range(many))), 2 * many)

    def test_a_wire_without_steps(self):
        for graph in (LONE, LONE[:3] + (1,)):
            self.assertEqual([part[0] for part in self.good(graph)], [0])

    def test_wires_that_are_up_at_the_beginning(self):
        for marks, code in ((2, 1), (4, 3), (8, 2)):
            self.good(FOLLOW[:2] + (marks, code))

    def test_stands_of_one_code(self):
        # The two stands with c alone up are one row of its fall gate.
        self.assertEqual(len({stand[1] for stand in stands(CHOICE, 7)}), 6)
        self.good(CHOICE)

    def test_most(self):
        for graph, many in ((FOLLOW, 4), (JOIN, 8), (CHOICE, 7), (ring(("made",) * 10), 20)):
            self.good(graph, many)
            self.assertEqual(asked(found, graph, many - 1), (TooMany, None))

    def test_ten_wires_and_400_stands(self):
        for seed in range(4):
            graph = Draw(seed).quilt([ring(("made",) * 5), TURNS, FOLLOW])
            self.assertEqual((len(graph[0]), len(graph[1]), len(stands(graph, 400))), (10, 24, 400))
            self.good(graph)
            self.assertEqual(asked(found, graph, 399), (TooMany, None))

    def test_quilts(self):
        sizes = []
        for seed in range(20):
            graph = Draw(seed).quilt(CALM_PATCHES * 2)
            self.good(graph)
            sizes.append((len(graph[0]), len(stands(graph, 400))))
        self.assertEqual(max(sizes)[0], 10)
        self.assertGreater(max(many for wires, many in sizes), 350)

    def test_a_clash_or_a_net(self):
        """[2]"""
        nets, refused = 0, {}
        for graph in mixed(200):
            told = asked(need_none, graph, 400)
            if isinstance(told, list):
                self.assertEqual(clashes(graph, 400), [])
                self.good(graph)
                nets += made(graph) != []
            else:
                self.assertEqual(asked(found, graph, 400), told)
                refused[told[0]] = refused.get(told[0], 0) + 1
        self.assertGreater(nets, 100)
        self.assertTrue(all(refused.get(error, 0) > 40 for error in (Broken, Crowded, CalledOff, Clash)), refused)

    def test_refusals(self):
        self.assertEqual(asked(found, COUNT, 6), (Clash, ([], [0, 1], 1)))
        self.assertEqual(asked(found, COUNT[:2] + (1 << 1, 1), 6), (Clash, ([1], [1, 2, 3, 4, 5], 1)))
        self.assertEqual(asked(found, COUNT, 5), (TooMany, None))
        early = ((("a", "given"), ("c", "made")),) + EARLY[1:]
        self.assertEqual(asked(found, early, 400), (CalledOff, ([0], 2, 1)))
        self.assertEqual(asked(found, FOLLOW[:3] + (3,), 400), (Broken, [0]))
        self.assertEqual(asked(found, FOLLOW[:2] + (9, 2), 400), (Crowded, [3]))

    def test_asked_again(self):
        graphs = [Draw(seed).quilt(CALM_PATCHES, 60) for seed in range(20)] + [FOLLOW, JOIN, LONE]
        kept = copy.deepcopy(graphs)
        nets = [found(graph, 60) for graph in graphs]
        self.assertEqual([found(graph, 60) for graph in reversed(graphs)], list(reversed(nets)))
        self.assertEqual([found(graph, 400) for graph in kept], nets)
        self.assertEqual(graphs, kept)

    def test_good_asked_again(self):
        gates = [gate_at(3, codes) for codes in subsets(8)]
        kept = copy.deepcopy(gates)
        told = [(good_rise(JOIN, 8, 2, gate), good_fall(JOIN, 8, 2, gate)) for gate in gates]
        again = [(good_rise(JOIN, 8, 2, gate), good_fall(JOIN, 8, 2, gate)) for gate in reversed(gates)]
        self.assertEqual(again, list(reversed(told)))
        self.assertEqual(gates, kept)


if __name__ == "__main__":
    unittest.main()

import copy
import unittest
from itertools import permutations

from calmwires.calls import sound
from calmwires.clashes import clashes
from calmwires.errors import Broken, CalledOff, Clash, Crowded, NoPlace, TooMany
from calmwires.graphs import made
from calmwires.putting import parted, parts, put_in
from calmwires.stands import behind, stands, steps_at
from calmwires.texts import read, shown
from tests.samples import (
    CHOICE, COUNT, EARLY, FOLLOW, GIVE_BACK, JOIN, LONE, NEST, Draw, asked, calm_by_words, full_graph, mixed,
    parted_by_words, put_by_words, ring, sound_by_words, sound_graphs, stands_by_ways,
)

NAMES = ("a", "bb", "ccc", "dddd", "eeeee", "ffffff", "ggggggg", "hhhhhhhh", "z", "y", "q")


def made_steps(graph):
    return [k for k, step in enumerate(graph[1]) if graph[0][step[0]][1] == "made"]


def with_wires(graph, many):
    """The same with wires without steps, up to that many."""
    spare = [name for name in NAMES if name not in [wire[0] for wire in graph[0]]]
    return (graph[0] + tuple((name, "given") for name in spare)[:many - len(graph[0])],) + graph[1:]


def with_steps(graph, many):
    """The same with steps of wire 0 that can't be done, up to that many."""
    return graph[:1] + (graph[1] + ((0, True, (50,), (51,)),) * (many - len(graph[1])),) + graph[2:]


def with_tokens(graph, left):
    """The same with tokens on spots that no step has, that many spots left."""
    used = {p for step in graph[1] for p in step[2] + step[3]}
    free = [p for p in range(64) if p not in used]
    return graph[:2] + (graph[2] | sum(1 << p for p in free[:len(free) - left]), graph[3])


class PutIn(unittest.TestCase):
    """[25]"""

    def test_by_hand(self):
        self.assertEqual(put_in(NEST, "z", 1, 3), (
            (("a", "made"), ("b", "made"), ("z", "made")),
            (
                (1, True, (0,), (1,)), (1, False, (4,), (2,)), (0, False, (2,), (3,)), (0, True, (5,), (0,)),
                (2, True, (1,), (4,)), (2, False, (3,), (5,)),
            ),
            1,
            1,
        ))

    def test_second_ahead_of_first(self):
        self.assertEqual(shown(put_in(NEST, "zz", 3, 0)), "\n".join([
            "made a", "made b", "made zz", "up b : 5 -> 1", "down b : 1 -> 2", "down a : 2 -> 3", "up a : 4 -> 0",
            "up zz : 3 -> 4", "down zz : 0 -> 5", "start 0 : a",
        ]))

    def test_several_takes(self):
        graph = put_in(JOIN, "z", 2, 5)
        self.assertEqual(graph[1][2], (2, True, (8,), (4, 5)))
        self.assertEqual(graph[1][5], (2, False, (9,), (0, 1)))
        self.assertEqual(graph[1][6:], ((3, True, (2, 3), (8,)), (3, False, (6, 7), (9,))))
        self.assertEqual(graph[1][:2] + graph[1][3:5], JOIN[1][:2] + JOIN[1][3:5])
        self.assertEqual((graph[0][:3], graph[2:]), (JOIN[0], JOIN[2:]))

    def test_tokens_given_back(self):
        graph = put_in(GIVE_BACK, "z", 1, 2)
        self.assertEqual((graph[1][1], graph[1][2]), ((1, True, (2,), (1, 5)), (2, True, (3,), (1, 7))))
        self.assertEqual(graph[1][6:], ((3, True, (1, 4), (2,)), (3, False, (1, 6), (3,))))

    def test_spots_between_and_tokens_without_steps(self):
        steps = ((0, True, (1,), (3,)), (0, False, (3,), (6,)), (0, True, (6,), (63,)))
        wires = (("a", "made"),)
        for marks, spots in (
            (0, (0, 2)), (1 << 1, (0, 2)), (1 << 0, (2, 4)), (1 << 2 | 1 << 4, (0, 5)), (0b110101, (7, 8)),
            (1 << 63, (0, 2)), ((1 << 62) - 1 - (1 << 40), (40, 62)), ((1 << 64) - 1 - (1 << 61) - (1 << 62), (61, 62)),
        ):
            graph = put_in((wires, steps, marks, 0), "z", 1, 0)
            self.assertEqual((graph[1][1][2], graph[1][0][2]), ((spots[0],), (spots[1],)), marks)
            self.assertEqual(graph[1][3:], ((1, True, (3,), (spots[0],)), (1, False, (1,), (spots[1],))))
            self.assertEqual(graph[2:], (marks, 0))

    def test_a_spot_that_is_only_filled(self):
        graph = ((("a", "made"),), ((0, True, (2,), (0,)), (0, False, (2,), (1,))), 4, 0)
        self.assertEqual(put_in(graph, "z", 0, 1)[1][2:], ((1, True, (2,), (3,)), (1, False, (2,), (4,))))

    def test_wires_that_are_up(self):
        graph = put_in(NEST[:3] + (3,), "z", 0, 1)
        self.assertEqual(graph[2:], (1, 3))

    def test_drawn(self):
        draw, many = Draw(1), 0
        for graph in mixed(60) + [Draw(seed).cycle() for seed in range(60)]:
            steps = made_steps(graph)
            if len(graph[0]) < 10 and len(graph[1]) < 23 and len(steps) > 1:
                first, second = draw.shuffled(steps)[:2]
                self.assertEqual(put_in(graph, "q", first, second), put_by_words(graph, "q", first, second), shown(graph))
                self.assertEqual(read(shown(put_in(graph, "q", first, second))), put_by_words(graph, "q", first, second))
                many += 1
        self.assertGreater(many, 100)

    def refused(self, graph, name, first, second):
        kept = copy.deepcopy(graph)
        self.assertEqual(asked(put_in, graph, name, first, second), (NoPlace, None))
        self.assertEqual(asked(parts, graph, name, first, second, 400), (NoPlace, None))
        self.assertEqual(graph, kept)

    def test_no_number_of_a_step_of_a_made_wire(self):
        # JOIN's made steps are 2 and 5.
        for number in (0, 1, 3, 4, 6, 7, 24, 1000, -1, -4, -6, 10 ** 30, -10 ** 30):
            self.refused(JOIN, "z", number, 5)
            self.refused(JOIN, "z", 2, number)
            self.refused(JOIN, "z", number, number)
        put_in(JOIN, "z", 2, 5)
        put_in(JOIN, "z", 5, 2)

    def test_alike(self):
        for number in (2, 5):
            self.refused(JOIN, "z", number, number)
        # Two steps may be alike in all but their numbers.
        graph = with_steps(NEST, 6)
        self.assertEqual(put_in(graph, "z", 4, 5), put_by_words(graph, "z", 4, 5))

    def test_names(self):
        for name in ("", "given", "made", "up", "down", "start", "aaaaaaaaa", "A", "a1", "a b", " a", "-", "a\n", "z_", "\u00e9"):
            self.refused(NEST, name, 1, 3)
        for name in ("x", "y", "out"):
            self.refused(JOIN, name, 2, 5)
        for name in ("q", "aaaaaaaa", "upp", "ou", "outs", "givens"):
            self.assertEqual(put_in(JOIN, name, 2, 5)[0][3], (name, "made"))

    def test_ten_wires(self):
        nine, ten = with_wires(NEST, 9), with_wires(NEST, 10)
        self.assertEqual((len(nine[0]), len(ten[0])), (9, 10))
        self.refused(ten, "q", 1, 3)
        self.assertEqual(put_in(nine, "q", 1, 3), put_by_words(nine, "q", 1, 3))
        self.assertEqual(put_in(nine, "q", 1, 3)[1][4][0], 9)

    def test_more_than_22_steps(self):
        self.assertEqual(len(with_steps(NEST, 22)[1]), 22)
        self.assertEqual(put_in(with_steps(NEST, 22), "z", 1, 3), put_by_words(with_steps(NEST, 22), "z", 1, 3))
        self.refused(with_steps(NEST, 23), "z", 1, 3)
        self.refused(with_steps(NEST, 24), "z", 1, 3)

    def test_fewer_than_two_spots_left(self):
        self.assertEqual(put_in(with_tokens(NEST, 2), "z", 1, 3), put_by_words(with_tokens(NEST, 2), "z", 1, 3))
        self.assertEqual(put_in(with_tokens(NEST, 2), "z", 1, 3)[1][4:], ((2, True, (1,), (62,)), (2, False, (3,), (63,))))
        self.refused(with_tokens(NEST, 1), "z", 1, 3)
        self.refused(with_tokens(NEST, 0), "z", 1, 3)

    def test_spots_that_steps_have(self):
        # 22 steps that have all spots but two, or but one, between them.
        for left in (2, 1, 0):
            steps = [[0, k % 2 == 0, {k}, {k + 22}] for k in range(22)]
            for spot in range(44, 64 - left):
                steps[spot - 44][2 + spot % 2].add(spot)
            graph = ((("a", "made"),), tuple((w, up, tuple(sorted(t)), tuple(sorted(f))) for w, up, t, f in steps), 1, 0)
            if left == 2:
                self.assertEqual(put_in(graph, "z", 3, 4), put_by_words(graph, "z", 3, 4))
            else:
                self.refused(graph, "z", 3, 4)

    def test_several_refusals_at_once(self):
        self.refused(full_graph(), "a", 0, 0)
        self.refused(with_wires(with_steps(with_tokens(NEST, 0), 24), 10), "", -1, 99)

    def test_nothing_handed_in_is_changed(self):
        graph = copy.deepcopy(NEST)
        new = put_in(graph, "z", 1, 3)
        self.assertEqual(graph, NEST)
        self.assertEqual(put_in(graph, "z", 1, 3), new)


class Parts(unittest.TestCase):
    """[26]"""

    def test_by_hand(self):
        for first, second in permutations(range(4), 2):
            self.assertIs(parts(NEST, "z", first, second, 80), (first, second) == (1, 3))

    def test_most(self):
        # The new graph has six stands.
        self.assertEqual(len(stands(put_in(NEST, "z", 1, 3), 400)), 6)
        for most, answer in ((6, True), (7, True), (400, True), (5, False), (4, False), (1, False)):
            self.assertIs(parts(NEST, "z", 1, 3, most), answer)

    def test_each_reason_not_to_part(self):
        reasons = {}
        for graph in sound_graphs(60):
            steps = made_steps(graph)
            if len(graph[0]) < 10 and len(graph[1]) < 23:
                for first, second in list(permutations(steps, 2))[:6]:
                    new = put_by_words(graph, "q", first, second)
                    found = sound_by_words(new, 60)
                    why = found[0] if isinstance(found, tuple) else (None if calm_by_words(new, 60) else Clash)
                    self.assertIs(parts(graph, "q", first, second, 60), why is None, (shown(graph), first, second))
                    reasons[why] = reasons.get(why, 0) + 1
        self.assertTrue(all(reasons.get(why, 0) > 5 for why in (None, Broken, CalledOff, TooMany, Clash)), reasons)

    def test_a_graph_that_is_not_sound(self):
        # Only the new graph counts.
        early = ((("a", "made"), ("c", "made")),) + EARLY[1:]
        for first, second in permutations(range(4), 2):
            new = put_by_words(early, "z", first, second)
            self.assertIs(parts(early, "z", first, second, 80), calm_by_words(new, 80))
        for rows in (
            "made a\nup a : 0 -> 1\nup a : 1 -> 2\ndown a : 2 -> 0\nstart 0 :",
            "made a\nup a : 0 -> 1\ndown a : 1 -> 2\nup a : 2 -> 0\nstart 0 2 :",
        ):
            for first, second in permutations(range(3), 2):
                self.assertIs(parts(read(rows), "z", first, second, 80), False)


class Parted(unittest.TestCase):
    """[26]"""

    def test_by_hand(self):
        self.assertEqual(parted(NEST, "z", 80), (1, 3, put_by_words(NEST, "z", 1, 3)))
        self.assertIs(type(parted(NEST, "z", 80)), tuple)
        self.assertIsNone(parted(COUNT, "z", 80))

    def test_most(self):
        self.assertEqual(parted(NEST, "z", 6)[:2], (1, 3))
        self.assertIsNone(parted(NEST, "z", 5))
        self.assertIsNone(parted(NEST, "z", 4))
        self.assertEqual(asked(parted, NEST, "z", 3), (TooMany, None))

    def test_none_or_one_made_step(self):
        self.assertIsNone(parted(ring(("given", "given")), "z", 80))
        self.assertIsNone(parted(LONE, "z", 80))
        self.assertIsNone(parted(read("given a\nmade b\nup a : 0 -> 1\nup b : 1 -> 2\nstart 0 :"), "z", 80))

    def test_a_graph_without_a_clash(self):
        graph = ring(("made", "made"))
        self.assertEqual(clashes(graph, 80), [])
        self.assertEqual(parted(graph, "z", 80), parted_by_words(graph, "z", 80))
        self.assertIsNotNone(parted(graph, "z", 80))

    def test_drawn(self):
        answers = {}
        graphs = [Draw(seed).cycle() for seed in range(150)] + sound_graphs(60, 30) + [FOLLOW, JOIN, CHOICE, GIVE_BACK]
        for graph in graphs:
            if len(graph[1]) <= 8 and len(graph[0]) < 10 and len(stands_by_ways(graph, 400)) <= 40:
                told = parted(graph, "q", 80)
                self.assertEqual(told, parted_by_words(graph, "q", 80), shown(graph))
                kind = (told is None, clashes(graph, 80) == [])
                answers[kind] = answers.get(kind, 0) + 1
                pairs = list(permutations(made_steps(graph), 2))
                for pair in pairs if told is None else pairs[:pairs.index(told[:2])]:
                    self.assertIs(parts(graph, "q", *pair, 80), False)
        self.assertTrue(all(answers.get((none, calm), 0) > 10 for none in (True, False) for calm in (True, False)), answers)

    def test_a_later_pair(self):
        # The first pairs are no good, and a pair the other way round comes in its own place.
        firsts = {}
        for seed in range(200):
            told = parted(Draw(seed).cycle(), "q", 80)
            if told is not None:
                firsts[told[0] < told[1]] = firsts.get(told[0] < told[1], 0) + 1
        self.assertTrue(firsts[True] > 10 and firsts[False] > 10, firsts)

    def test_refusals_of_sound_ahead_of_no_place(self):
        for rows, what in (
            ("made a\ngiven b\nup b : 0 -> 1\nup a : 1 -> 2\nup a : 2 -> 3\nstart 0 :", (Broken, [0, 1, 2])),
            ("made a\ngiven b\nup b : 0 -> 1\nup a : 1 -> 2\nstart 0 2 :", (Crowded, [0, 1])),
            ("made a\ngiven b\nup b : 0 -> 1\nup a : 1 -> 2\ndown b : 1 -> 3\nstart 0 :", (CalledOff, ([0], 2, 1))),
        ):
            graph = read(rows)
            for name in ("z", "a", "", "up"):
                self.assertEqual(asked(parted, graph, name, 400), what)
                self.assertEqual(asked(parted, with_wires(graph, 10), name, 400), what)
                self.assertEqual(asked(parted, with_steps(graph, 24), name, 400), what)
                if what[0] is not Crowded:
                    self.assertEqual(asked(parted, with_tokens(graph, 0), name, 400), what)
        for name in ("z", "a", ""):
            self.assertEqual(asked(parted, with_wires(NEST, 10), name, 3), (TooMany, None))
            self.assertEqual(asked(parted, with_wires(NEST, 10), name, 4), (NoPlace, None))

    def test_refusals_of_graphs_as_sound(self):
        for graph in mixed(80):
            told = asked(sound, graph, 40)
            if isinstance(told, tuple):
                self.assertEqual(asked(parted, graph, "q", 40), told)
                self.assertEqual(asked(parted, graph, "up", 40), told)

    def test_no_place(self):
        for name in ("", "given", "made", "up", "down", "start", "aaaaaaaaa", "A", "a1", "a b", "a", "b"):
            self.assertEqual(asked(parted, NEST, name, 80), (NoPlace, None), name)
            self.assertEqual(asked(parted, COUNT, name, 80), (NoPlace, None), name)
        for graph, other in (
            (with_wires(NEST, 10), with_wires(NEST, 9)),
            (with_steps(NEST, 23), with_steps(NEST, 22)),
            (with_tokens(NEST, 1), with_tokens(NEST, 2)),
        ):
            self.assertEqual(asked(parted, graph, "q", 80), (NoPlace, None))
            self.assertEqual(parted(other, "q", 80)[:2], (1, 3))
        self.assertEqual(asked(parted, with_steps(NEST, 24), "q", 80), (NoPlace, None))
        self.assertEqual(asked(parted, with_tokens(NEST, 0), "q", 80), (NoPlace, None))

    def test_no_place_without_made_steps(self):
        graph = ring(("given",) * 2)
        for bad in (with_wires(graph, 10), with_steps(graph, 23), with_tokens(graph, 1)):
            self.assertEqual(asked(parted, bad, "q", 80), (NoPlace, None))
        self.assertEqual(asked(parted, graph, "a", 80), (NoPlace, None))
        self.assertIsNone(parted(with_tokens(graph, 2), "q", 80))

    def test_asked_again(self):
        graphs = [Draw(seed).cycle() for seed in range(30)]
        kept = copy.deepcopy(graphs)
        told = [parted(graph, "q", 80) for graph in graphs]
        self.assertEqual([parted(graph, "q", 80) for graph in reversed(graphs)], list(reversed(told)))
        self.assertEqual(graphs, kept)


class Orders(unittest.TestCase):
    """[27], [2]"""

    def pairs(self, many):
        """Old graphs, and the sound ones that a wire put in makes of them."""
        told = []
        for graph in sound_graphs(many, 30):
            if len(graph[0]) < 10 and len(graph[1]) < 23 and len(stands_by_ways(graph, 400)) <= 40:
                steps = made_steps(graph)
                for first, second in list(permutations(steps, 2))[:8]:
                    new = put_in(graph, "q", first, second)
                    if isinstance(asked(sound, new, 120), list):
                        told.append((graph, new))
        self.assertGreater(len(told), 150)
        self.assertGreater(len({graph for graph, new in told if clashes(graph, 400)}), 20)
        return told

    def test_new_orders_are_old_ones(self):
        for old, new in self.pairs(50):
            own = len(old[1])
            come, seen = [(new[2:], old[2:])], {(new[2:], old[2:])}
            for here, there in come:
                for step in steps_at(new, here):
                    if step < own:
                        self.assertIn(step, steps_at(old, there), (shown(old), shown(new)))
                    after = (behind(new, here, step), behind(old, there, step) if step < own else there)
                    self.assertEqual(after[0][1] & ~(1 << len(old[0])), after[1][1])
                    if after not in seen:
                        seen.add(after)
                        come.append(after)

    def test_old_orders_are_got_from_new_ones(self):
        for old, new in self.pairs(50):
            first = (old[2:], self.closed(old, new, {new[2:]}))
            come, seen = [first], {first}
            for there, here in come:
                for step in steps_at(old, there):
                    let = {behind(new, stand, step) for stand in here if step in steps_at(new, stand)}
                    self.assertTrue(let, (shown(old), shown(new), step))
                    after = (behind(old, there, step), self.closed(old, new, let))
                    if after not in seen:
                        seen.add(after)
                        come.append(after)

    def closed(self, old, new, some):
        """All stands that steps of the new wire lead to from some."""
        come = list(some)
        for stand in come:
            for step in steps_at(new, stand):
                if step >= len(old[1]) and behind(new, stand, step) not in come:
                    come.append(behind(new, stand, step))
        return frozenset(come)

    def test_drawn_ways(self):
        for seed, (old, new) in enumerate(self.pairs(25)):
            draw, here, there = Draw(seed), new[2:], old[2:]
            for turn in range(40):
                let = steps_at(new, here)
                if let:
                    step = let[draw.below(len(let))]
                    here = behind(new, here, step)
                    there = behind(old, there, step) if step < len(old[1]) else there
                    self.assertTrue(step >= len(old[1]) or there[1] == here[1] & ~(1 << len(old[0])))

    def test_where_a_wire_parts_no_clash_is_left(self):
        for seed in range(60):
            graph = Draw(seed).cycle()
            told = parted(graph, "q", 80)
            if told is not None:
                self.assertEqual(clashes(told[2], 80), [])
                self.assertEqual(made(told[2]), made(graph) + [len(graph[0])])


if __name__ == "__main__":
    unittest.main()

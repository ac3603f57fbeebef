import unittest

from calmwires.calls import called_off, sound, wants
from calmwires.errors import Broken, CalledOff, Crowded, TooMany
from calmwires.stands import behind, can, stands, way
from calmwires.texts import read, shown
from tests.samples import (
    CALM_PATCHES, CHOICE, EARLY, FOLLOW, GIVE_BACK, JOIN, JOIN_STANDS, LONE, Draw, asked, full_graph, mixed,
    off_by_words, ring, sound_by_words, step_by_tokens, tokens_of, wants_by_words,
)


def graph_of(*rows):
    return read("\n".join(rows))


class Wants(unittest.TestCase):
    """[10]"""

    def wanted(self, graph, stand):
        told = [wants(graph, stand, wire) for wire in range(len(graph[0]))]
        self.assertEqual({type(want) for want in told}, {int})
        return told

    def test_along_a_graph(self):
        self.assertEqual([self.wanted(FOLLOW, stand[:2]) for stand in stands(FOLLOW, 4)], [[1, 0], [0, 1], [-1, 0], [0, -1]])
        self.assertEqual([self.wanted(JOIN, stand[:2]) for stand in JOIN_STANDS], [
            [1, 1, 0], [0, 1, 0], [1, 0, 0], [0, 0, 1], [-1, -1, 0], [0, -1, 0], [-1, 0, 0], [0, 0, -1],
        ])

    def test_one_wire(self):
        for kind in ("given", "made"):
            self.assertEqual([wants(ring((kind,)), stand, 0) for stand in ((1, 0), (2, 1), (0, 0))], [1, -1, 0])

    def test_both(self):
        for marks, want in ((0, 0), (1, 1), (8, -1), (9, 1), (15, 1)):
            graph = graph_of("made a", "down a : 3 -> 2", "up a : 0 -> 1", "start :")
            self.assertEqual([wants(graph, (marks, code), 0) for code in (0, 1)], [want, want])

    def test_one_of_several_steps_is_enough(self):
        self.assertEqual([wants(CHOICE, (marks, 0), 2) for marks in (2, 4, 6, 1)], [1, 1, 1, 0])
        self.assertEqual([wants(CHOICE, (marks, 4), 2) for marks in (32, 64, 96, 8)], [-1, -1, -1, 0])

    def test_all_takes_are_needed(self):
        self.assertEqual([wants(JOIN, (marks, 3), 2) for marks in (4, 8, 12, 64, 128, 192, 4 + 64)], [0, 0, 1, 0, 0, -1, 0])

    def test_a_wire_without_steps(self):
        for stand in ((1, 0), (2, 2), (2**64 - 1, 3), (0, 0)):
            self.assertEqual(wants(LONE, stand, 0), 0)
        self.assertEqual(wants(full_graph(), (2**64 - 1, 0), 9), 0)

    def test_any_stand(self):
        seen = set()
        for seed in range(60):
            graph = Draw(seed).graph(4)
            for marks in range(16):
                for code in range(1 << len(graph[0])):
                    told = self.wanted(graph, (marks, code))
                    self.assertEqual(told, [wants_by_words(graph, (marks, code), w) for w in range(len(graph[0]))])
                    seen.update(told)
        self.assertEqual(seen, {1, 0, -1})

    def test_ten_wires(self):
        draw = Draw(4)
        for seed in range(20):
            graph = draw.quilt(CALM_PATCHES * 2)
            marks = [draw.below(2**31) << 33 | draw.below(2**31) << 11 | draw.below(2**11) for case in range(20)]
            for some in marks + [2**64 - 1]:
                told = self.wanted(graph, (some, draw.below(1 << len(graph[0]))))
                self.assertEqual(told, [wants_by_words(graph, (some, 0), wire) for wire in range(len(graph[0]))])


class CallsOff(unittest.TestCase):
    """[11]"""

    def told(self, graph, marks, code=0):
        """For the first two steps: whether 0 is called off by 1, and 1 by 0."""
        return [called_off(graph, (marks, code), 0, 1), called_off(graph, (marks, code), 1, 0)]

    def test_a_shared_take(self):
        graph = graph_of("given a", "made b", "up a : 0 1 -> 3", "up b : 1 2 -> 4", "start :")
        self.assertEqual(self.told(graph, 7), [True, True])
        self.assertEqual(self.told(graph, 7 + 2**63), [True, True])

    def test_no_shared_take(self):
        graph = graph_of("given a", "made b", "up a : 0 1 -> 3", "up b : 2 -> 4", "start :")
        self.assertEqual(self.told(graph, 7), [False, False])

    def test_given_back(self):
        graph = graph_of("given a", "made b", "up a : 0 1 -> 1 3", "up b : 1 2 -> 4", "start :")
        self.assertEqual(self.told(graph, 7), [True, False])
        graph = graph_of("given a", "made b", "up a : 0 1 -> 1 3", "up b : 1 2 -> 1 4", "start :")
        self.assertEqual(self.told(graph, 7), [False, False])

    def test_one_of_two_given_back(self):
        graph = graph_of("given a", "made b", "up a : 0 1 -> 1", "up b : 0 1 -> 0", "start :")
        self.assertEqual(self.told(graph, 3), [True, True])
        graph = graph_of("given a", "made b", "up a : 0 1 -> 0 1", "up b : 0 1 -> 0", "start :")
        self.assertEqual(self.told(graph, 3), [True, False])

    def test_a_fill_that_the_other_takes(self):
        # The token on spot 2 is there already, so both can be done; a being done would crowd it but for its takes.
        graph = graph_of("given a", "made b", "up a : 0 2 -> 2", "up b : 2 -> 3", "start :")
        self.assertEqual(self.told(graph, 5), [True, False])

    def test_by_takes_alone(self):
        # Behind step 1 wire a is up already: step 0 would be refused there, but its takes have their tokens.
        graph = graph_of("made a", "up a : 0 -> 2", "up a : 1 -> 3", "start 0 1 :")
        self.assertEqual(self.told(graph, 3), [False, False])
        # Behind step 1 a spot that step 0 fills has a token.
        graph = graph_of("made a", "made b", "up a : 0 -> 2", "up b : 1 -> 2", "start 0 1 :")
        self.assertEqual(self.told(graph, 3), [False, False])

    def test_a_refused_there(self):
        graph = graph_of("made a", "made b", "up a : 0 -> 2", "up b : 0 1 -> 3", "start 0 1 : a")
        self.assertIs(called_off(graph, (3, 1), 0, 1), True)
        self.assertIs(called_off(graph, (3 + 4, 0), 0, 1), True)

    def test_whatever_the_kinds(self):
        for one in ("given", "made"):
            for other in ("given", "made"):
                graph = graph_of(f"{one} a", f"{other} b", "up a : 0 -> 1", "up b : 0 -> 0", "start 0 :")
                self.assertEqual(self.told(graph, 1), [False, True])

    def test_any_stand(self):
        many = {True: 0, False: 0}
        for seed in range(80):
            graph = Draw(seed).graph(4)
            for marks in range(16):
                for code in range(1 << len(graph[0])):
                    self.pairs_at(graph, (marks, code), many)
        self.assertTrue(min(many.values()) > 1000, many)

    def pairs_at(self, graph, stand, many):
        here = [k for k in range(len(graph[1])) if can(graph, stand, k)]
        for b in here:
            if not isinstance(step_by_tokens(graph, *tokens_of(graph, stand), b), tuple):
                continue
            for a in here:
                if a != b:
                    told = called_off(graph, stand, a, b)
                    self.assertIs(told, off_by_words(graph, stand, a, b))
                    self.assertIs(told, not can(graph, behind(graph, stand, b), a))
                    many[told] += 1


class Sound(unittest.TestCase):
    """[11], [12]"""

    def refused(self, error, what, most, *rows):
        self.assertEqual(asked(sound, graph_of(*rows), most), (error, what))

    def test_the_list_of_stands(self):
        self.assertEqual(sound(JOIN, 400), JOIN_STANDS)
        for graph in CALM_PATCHES + [EARLY]:
            self.assertEqual(sound(graph, 400), stands(graph, 400))

    def test_most(self):
        for graph, many in ((FOLLOW, 4), (JOIN, 8), (CHOICE, 7), (GIVE_BACK, 8), (LONE, 2), (ring(("made",) * 10), 20)):
            self.assertEqual(len(sound(graph, many)), many)
            for most in range(1, many):
                self.assertEqual(asked(sound, graph, most), (TooMany, None))

    def test_refusals_of_stands(self):
        broken = ("made a", "given b", "up b : 0 -> 1", "up a : 1 -> 2", "up a : 2 -> 3", "start 0 :")
        self.refused(Broken, [0, 1, 2], 400, *broken)
        self.refused(Broken, [0, 1, 2], 3, *broken)
        self.refused(TooMany, None, 2, *broken)
        self.refused(Crowded, [1, 0], 2, "made a", "given b", "up a : 1 -> 2", "up b : 0 -> 1", "start 0 2 :")

    def test_refusals_of_stands_come_first(self):
        # At the beginning steps 0 and 1 call one another off; what is refused comes later.
        rows = ("made a", "given b", "given c", "up a : 0 -> 1", "up b : 0 -> 2")
        self.refused(CalledOff, ([], 1, 0), 3, *rows, "start 0 :")
        self.refused(TooMany, None, 2, *rows, "start 0 :")
        self.refused(Broken, [1, 2], 400, *rows, "up b : 2 -> 3", "start 0 :")
        self.refused(Crowded, [1, 2], 400, *rows, "up c : 2 -> 4", "start 0 4 :")

    def test_kinds(self):
        # Each of the two steps calls off the other.
        for one, other, what in (
            ("made", "made", ([], 1, 0)), ("given", "made", ([], 1, 0)), ("made", "given", ([], 1, 0)), ("given", "given", None),
        ):
            graph = graph_of(f"{one} a", f"{other} b", "up a : 0 -> 1", "up b : 0 -> 2", "start 0 :")
            self.assertEqual(asked(sound, graph, 400), (CalledOff, what) if what else stands(graph, 3))

    def test_kinds_where_one_gives_back(self):
        # Step 0 is called off by step 1, but not the other way.
        for one, other, what in (
            ("made", "made", ([], 0, 1)), ("given", "made", ([], 0, 1)), ("made", "given", ([], 0, 1)), ("given", "given", None),
        ):
            graph = graph_of(f"{one} a", f"{other} b", "up a : 0 1 -> 0 3", "up b : 0 2 -> 4", "start 0 1 2 :")
            self.assertEqual(asked(sound, graph, 400), (CalledOff, what) if what else stands(graph, 400))

    def test_both_give_back(self):
        graph = graph_of("made a", "made b", "up a : 0 1 -> 0 3", "up b : 0 2 -> 0 4", "start 0 1 2 :")
        self.assertEqual(len(sound(graph, 4)), 4)

    def test_two_steps_of_one_wire(self):
        self.refused(CalledOff, ([], 1, 0), 400, "made a", "up a : 0 -> 1", "up a : 0 -> 2", "start 0 :")
        self.refused(CalledOff, ([], 1, 0), 400, "made a", "up a : 0 -> 1", "up a : 0 -> 1", "start 0 :")
        graph = graph_of("given a", "up a : 0 -> 1", "up a : 0 -> 2", "start 0 :")
        self.assertEqual(len(sound(graph, 3)), 3)

    def test_the_way_of_the_first_stand(self):
        rows = ("given a", "given b", "made c", "up a : 0 -> 1", "up b : 2 -> 3", "up c : 1 3 -> 4", "down a : 1 -> 0")
        graph = graph_of(*rows, "start 0 2 :")
        self.assertEqual(way(stands(graph, 400), 3), [0, 1])
        self.assertEqual(asked(sound, graph, 400), (CalledOff, ([0, 1], 3, 2)))

    def test_stands_in_order_ahead_of_steps(self):
        # Steps 4 and 5 call one another off behind step 0, steps 2 and 3 behind step 1.
        self.refused(
            CalledOff, ([0], 5, 4), 400, "given a", "made b", "made c", "up a : 0 -> 1", "up a : 0 -> 2",
            "up b : 2 -> 3", "up c : 2 -> 4", "up b : 1 -> 5", "up c : 1 -> 6", "start 0 :",
        )

    def test_the_least_by_then_the_least_lost(self):
        # By 0 are lost 3 and 4, by 1 is lost 0, by 3 and 4 others.
        rows = ["up a : 0 5 -> 5 10", "up b : 5 -> 11", "up c : 7 -> 12", "up d : 0 6 -> 13", "up e : 0 6 -> 14"]
        wires = [f"made {name}" for name in "abcde"]
        self.refused(CalledOff, ([], 3, 0), 400, *wires, *rows, "start 0 5 6 7 :")
        # Without a token for 3 the next one is lost.
        rows[3] = "up d : 0 6 9 -> 13"
        self.refused(CalledOff, ([], 4, 0), 400, *wires, *rows, "start 0 5 6 7 :")
        # Where 0 takes nothing away from others, the next by is told.
        rows[0] = "up a : 0 5 8 -> 0 5 10"
        self.refused(CalledOff, ([], 0, 1), 400, *wires, *rows, "start 0 5 6 7 8 :")

    def test_given_pairs_are_passed_over(self):
        # By 0 the given 1 is lost, which is let; by 0 the made 2 is not.
        self.refused(
            CalledOff, ([], 2, 0), 400, "given a", "given b", "made c",
            "up a : 0 -> 1", "up b : 0 -> 2", "up c : 0 -> 3", "start 0 :",
        )

    def test_rivals_that_never_meet(self):
        rows = ("made a", "up a : 0 -> 1", "down a : 1 -> 2", "up a : 0 3 -> 4", "start 0 :")
        self.assertEqual(len(sound(graph_of(*rows), 3)), 3)

    def test_a_given_wire_without_wait(self):
        for a, c, what in (("given", "made", ([0], 2, 1)), ("made", "given", ([0], 2, 1)), ("made", "made", ([0], 2, 1))):
            graph = ((("a", a), ("c", c)),) + EARLY[1:]
            self.assertEqual(asked(sound, graph, 400), (CalledOff, what))

    def test_drawn(self):
        kinds = {}
        for graph in mixed(200):
            many = len(asked(stands, graph, 400))
            for most in (1, 3, max(many - 1, 1), many, 400):
                told = asked(sound, graph, most)
                self.assertEqual(told, sound_by_words(graph, most), (shown(graph), most))
                kind = told[0] if isinstance(told, tuple) else list
                kinds[kind] = kinds.get(kind, 0) + 1
        self.assertTrue(all(kinds.get(kind, 0) > 50 for kind in (Broken, Crowded, TooMany, CalledOff, list)), kinds)

    def test_many_stands(self):
        largest = 0
        for seed in range(12):
            graph = Draw(seed).quilt(CALM_PATCHES * 2)
            told = sound(graph, 400)
            self.assertEqual(told, sound_by_words(graph, 400))
            largest = max(largest, len(told))
        self.assertGreater(largest, 350)

    def test_at_most_one_step_of_a_made_wire(self):
        for graph in mixed(200):
            told = asked(sound, graph, 400)
            for stand in told if isinstance(told, list) else []:
                wires = [step[0] for k, step in enumerate(graph[1]) if can(graph, stand[:2], k)]
                for wire, (name, kind) in enumerate(graph[0]):
                    self.assertTrue(kind == "given" or wires.count(wire) <= 1, shown(graph))

    def test_the_list_is_the_askers_own(self):
        told = sound(JOIN, 8)
        self.assertIs(type(told), list)
        told.clear()
        self.assertEqual(sound(JOIN, 8), JOIN_STANDS)

    def test_the_refusal_is_the_askers_own(self):
        graph = graph_of("given a", "made b", "up a : 0 -> 1", "down a : 1 -> 0", "up b : 1 -> 2", "start 0 :")
        for again in range(2):
            with self.assertRaises(CalledOff) as caught:
                sound(graph, 400)
            self.assertEqual(vars(caught.exception), {"way": [0], "lost": 2, "by": 1})
            self.assertEqual([type(part) for part in vars(caught.exception).values()], [list, int, int])
            caught.exception.way.clear()
            sound(JOIN, 8)


if __name__ == "__main__":
    unittest.main()

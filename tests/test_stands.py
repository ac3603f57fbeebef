import unittest

from calmwires.errors import Broken, Crowded, TooMany
from calmwires.graphs import bits, ones
from calmwires.stands import behind, can, stands, way
from calmwires.texts import read
from tests.samples import FOLLOW, JOIN, JOIN_STANDS, Draw, asked, full_graph, stands_by_ways, step_by_tokens

FREE = 2**64 - 1


def one_step(wire, up, takes, fills, wires=3):
    names = (("a", "given"), ("b", "made"), ("c", "made"))
    return (names[:wires], ((wire, up, takes, fills),), 0, 0)


def drawn(many):
    return [Draw(seed).graph() for seed in range(many)] + [Draw(seed).rings() for seed in range(many)]


class Steps(unittest.TestCase):
    """[7]"""

    def refused(self, error, graph, stand, step):
        with self.assertRaises(error) as caught:
            behind(graph, stand, step)
        self.assertIs(type(caught.exception), error)
        self.assertEqual(caught.exception.way, [step])
        caught.exception.way.append(9)
        with self.assertRaises(error) as caught:
            behind(graph, stand, step)
        self.assertEqual(caught.exception.way, [step])

    def test_can(self):
        graph = one_step(0, True, (1, 4, 63), (2,))
        self.assertIs(can(graph, (bits([1, 4, 63]), 0), 0), True)
        self.assertIs(can(graph, (FREE, 0), 0), True)
        self.assertIs(can(graph, (0, 0), 0), False)
        for lost in (1, 4, 63):
            self.assertIs(can(graph, (FREE - 2**lost, 0), 0), False)

    def test_can_looks_at_takes_alone(self):
        for up in (True, False):
            for code in range(8):
                graph = one_step(1, up, (0,), (1,))
                self.assertIs(can(graph, (3, code), 0), True)
                self.assertIs(can(graph, (2, code), 0), False)

    def test_can_at_a_stand_not_come_to(self):
        self.assertEqual([can(FOLLOW, (5, 0), k) for k in range(4)], [True, False, True, False])
        self.assertEqual([can(FOLLOW, (0, 3), k) for k in range(4)], [False] * 4)

    def test_behind(self):
        graph = one_step(1, True, (0, 5), (1, 63))
        self.assertEqual(behind(graph, (bits([0, 5]), 0), 0), (bits([1, 63]), 2))
        self.assertEqual(behind(graph, (bits([0, 2, 5, 40]), 5), 0), (bits([1, 2, 40, 63]), 7))
        graph = one_step(2, False, (63,), (0,))
        self.assertEqual(behind(graph, (2**63, 7), 0), (1, 3))
        self.assertEqual(behind(graph, (2**63 + 6, 4), 0), (7, 0))

    def test_behind_is_a_tuple_of_whole_numbers(self):
        told = behind(FOLLOW, (1, 0), 0)
        self.assertIs(type(told), tuple)
        self.assertEqual([type(part) for part in told], [int, int])

    def test_a_spot_taken_and_filled(self):
        graph = one_step(0, True, (3,), (3,))
        self.assertEqual(behind(graph, (8, 0), 0), (8, 1))
        graph = one_step(0, True, (3, 4), (3, 5))
        self.assertEqual(behind(graph, (bits([3, 4]), 0), 0), (bits([3, 5]), 1))
        self.refused(Crowded, graph, (bits([3, 4, 5]), 0), 0)

    def test_broken(self):
        for up, code in ((True, 2), (True, 7), (False, 0), (False, 5)):
            self.refused(Broken, one_step(1, up, (0,), (1,)), (1, code), 0)

    def test_crowded(self):
        graph = one_step(0, True, (0,), (1, 2, 63))
        for marks in (bits([0, 1]), bits([0, 2]), bits([0, 63]), FREE):
            self.refused(Crowded, graph, (marks, 0), 0)
        self.assertEqual(behind(graph, (bits([0, 3, 62]), 0), 0), (bits([1, 2, 3, 62, 63]), 1))

    def test_broken_ahead_of_crowded(self):
        self.refused(Broken, one_step(0, True, (0,), (1,)), (3, 1), 0)
        self.refused(Broken, one_step(0, False, (0,), (1,)), (3, 0), 0)
        self.refused(Crowded, one_step(0, True, (0,), (1,)), (3, 0), 0)
        self.refused(Crowded, one_step(0, False, (0,), (1,)), (3, 1), 0)

    def test_the_way_is_that_step(self):
        self.refused(Broken, FOLLOW, (8, 0), 3)
        self.refused(Crowded, FOLLOW, (12, 1), 2)
        graph = full_graph()
        self.refused(Broken, graph, (FREE, 0), 23)
        self.refused(Crowded, graph, (FREE, 2**10 - 1), 23)

    def test_all_marks_and_codes(self):
        for seed in range(60):
            graph = Draw(seed).graph(4)
            for marks in range(16):
                for code in range(1 << len(graph[0])):
                    levels = [bool(code >> wire & 1) for wire in range(len(graph[0]))]
                    for k in range(len(graph[1])):
                        self.as_by_tokens(graph, marks, code, levels, k)

    def as_by_tokens(self, graph, marks, code, levels, k):
        after = step_by_tokens(graph, set(ones(marks)), levels, k)
        self.assertIs(can(graph, (marks, code), k), after is not None)
        if after in (Broken, Crowded):
            self.refused(after, graph, (marks, code), k)
        elif after is not None:
            expected = (bits(sorted(after[0])), bits([w for w, up in enumerate(after[1]) if up]))
            self.assertEqual(behind(graph, (marks, code), k), expected)


class Stands(unittest.TestCase):
    """[8]"""

    def refused(self, error, graph, most, steps):
        self.assertEqual(asked(stands, graph, most), (error, steps))

    def test_lists(self):
        self.assertEqual(
            stands(FOLLOW, 400), [(1, 0, None, None), (2, 1, 0, 0), (4, 3, 1, 1), (8, 2, 2, 2)]
        )
        self.assertEqual(stands(JOIN, 400), JOIN_STANDS)

    def test_the_first_to_come_to_a_stand_is_told(self):
        # The stand with both wires up is come to from stands 1 and 2, and by steps 1 and 0.
        graph = read("given a\ngiven b\nup a : 0 -> 2\nup b : 1 -> 3\nstart 0 1 :")
        self.assertEqual(stands(graph, 4), [(3, 0, None, None), (6, 1, 0, 0), (9, 2, 0, 1), (12, 3, 1, 1)])
        turned = read("given a\ngiven b\nup b : 1 -> 3\nup a : 0 -> 2\nstart 0 1 :")
        self.assertEqual(stands(turned, 4), [(3, 0, None, None), (9, 2, 0, 0), (6, 1, 0, 1), (12, 3, 1, 1)])

    def test_two_steps_to_one_stand(self):
        graph = read("given a\nup a : 0 -> 1\nup a : 0 -> 1\nup a : 0 -> 2\nstart 0 :")
        self.assertEqual(stands(graph, 3), [(1, 0, None, None), (2, 1, 0, 0), (4, 1, 0, 2)])

    def test_alike_marks_unlike_codes(self):
        graph = read("given a\ngiven b\nup a : 0 -> 1\nup b : 0 -> 1\nstart 0 :")
        self.assertEqual(stands(graph, 3), [(1, 0, None, None), (2, 1, 0, 0), (2, 2, 0, 1)])

    def test_the_beginning_alone(self):
        graph = read("given a\nup a : 0 -> 1\nstart 5 : a")
        self.assertEqual(stands(graph, 1), [(32, 1, None, None)])
        self.assertEqual(stands(graph, 400), [(32, 1, None, None)])

    def test_most(self):
        for graph, many in ((FOLLOW, 4), (JOIN, 8)):
            for most in range(1, many):
                self.refused(TooMany, graph, most, None)
            for most in (many, many + 1, 400):
                self.assertEqual(len(stands(graph, most)), many)

    def test_many_stands(self):
        rows = [f"given {name}" for name in "abcdefgh"]
        rows += [f"up {name} : {n} -> {n + 20}" for n, name in enumerate("abcdefgh")]
        graph = read("\n".join(rows + ["start 0 1 2 3 4 5 6 7 :"]))
        told = stands(graph, 256)
        self.assertEqual(len({stand[:2] for stand in told}), 256)
        self.assertEqual(told[-1], (bits(range(20, 28)), 255, 247, 7))
        self.refused(TooMany, graph, 255, None)

    def test_broken(self):
        graph = read("given a\nmade b\nup b : 2 -> 3\nup a : 0 -> 1\nup a : 1 -> 2\nstart 0 :")
        self.refused(Broken, graph, 400, [1, 2])
        self.refused(Broken, graph, 2, [1, 2])
        self.refused(TooMany, graph, 1, None)

    def test_broken_at_the_beginning(self):
        self.refused(Broken, read("given a\nup a : 0 -> 1\nstart 0 : a"), 1, [0])
        self.refused(Broken, read("given a\ndown a : 0 -> 1\nstart 0 :"), 400, [0])

    def test_crowded(self):
        graph = read("given a\ngiven b\nup a : 0 -> 1\nup b : 1 -> 2\nstart 0 2 :")
        self.refused(Crowded, graph, 400, [0, 1])
        self.refused(Crowded, graph, 2, [0, 1])
        self.refused(TooMany, graph, 1, None)
        self.refused(Crowded, read("given a\nup a : 0 -> 1\nstart 0 1 :"), 1, [0])

    def test_broken_ahead_of_crowded(self):
        self.refused(Broken, read("given a\nup a : 0 -> 1\nstart 0 1 : a"), 1, [0])

    def test_the_first_met(self):
        crowded, broken, new = "up a : 0 -> 9", "up b : 0 -> 1", "up c : 0 -> 2"
        for rows, error, steps in (
            ([crowded, broken, new], Crowded, [0]),
            ([broken, crowded, new], Broken, [0]),
            ([new, crowded, broken], TooMany, None),
            ([new, broken, crowded], TooMany, None),
            ([broken, new, crowded], Broken, [0]),
        ):
            text = "\n".join(["given a", "given b", "given c"] + rows + ["start 0 9 : b"])
            self.refused(error, read(text), 1, steps)

    def test_a_stand_known_already_is_not_too_many(self):
        # At the last stand a step leads back to the first, then one is refused.
        graph = read("given a\nup a : 0 -> 1\ndown a : 1 -> 0\nup a : 1 -> 2\nstart 0 :")
        self.refused(Broken, graph, 2, [0, 2])
        self.refused(TooMany, graph, 1, None)

    def test_stands_in_order_ahead_of_steps(self):
        # A refusal behind the second stand is met ahead of one behind the third, though its step is later.
        graph = read(
            "given a\ngiven b\nup a : 0 -> 1\nup b : 0 -> 2\nup b : 2 -> 3\nup a : 1 -> 4\nstart 0 :"
        )
        self.refused(Broken, graph, 400, [0, 3])

    def test_drawn(self):
        kinds = {}
        for graph in drawn(300):
            for most in (1, 2, 3, 5, 8, 400):
                told = asked(stands, graph, most)
                self.assertEqual(told, stands_by_ways(graph, most), (graph, most))
                kind = told[0] if isinstance(told, tuple) else min(len(told), 9)
                kinds[kind] = kinds.get(kind, 0) + 1
        self.assertTrue(all(kinds.get(kind, 0) > 50 for kind in (Broken, Crowded, TooMany, 2, 9)), kinds)

    def test_the_list_is_the_askers_own(self):
        told = stands(JOIN, 400)
        self.assertIs(type(told), list)
        self.assertEqual({type(stand) for stand in told}, {tuple})
        told.clear()
        self.assertEqual(stands(JOIN, 400), JOIN_STANDS)

    def test_the_way_of_a_refusal_is_the_askers_own(self):
        graph = read("given a\nup a : 0 -> 1\nup a : 1 -> 2\nstart 0 :")
        for again in range(2):
            with self.assertRaises(Broken) as caught:
                stands(graph, 400)
            self.assertEqual(caught.exception.way, [0, 1])
            caught.exception.way.clear()


class Ways(unittest.TestCase):
    """[9]"""

    def test_ways(self):
        self.assertEqual(way(stands(FOLLOW, 4), 0), [])
        self.assertEqual([way(JOIN_STANDS, n) for n in range(8)], [
            [], [0], [1], [0, 1], [0, 1, 2], [0, 1, 2, 3], [0, 1, 2, 4], [0, 1, 2, 3, 4],
        ])

    def leads(self, graph, steps):
        stand = graph[2:]
        for step in steps:
            self.assertTrue(can(graph, stand, step))
            stand = behind(graph, stand, step)
        return stand

    def test_each_leads_there(self):
        longest = 0
        for graph in drawn(200):
            told = asked(stands, graph, 400)
            if isinstance(told, list):
                for n, stand in enumerate(told):
                    steps = way(told, n)
                    longest = max(longest, len(steps))
                    self.assertEqual(self.leads(graph, steps), stand[:2])
        self.assertGreater(longest, 6)

    def test_the_way_is_the_askers_own(self):
        found = stands(JOIN, 8)
        told = way(found, 7)
        self.assertIs(type(told), list)
        told.clear()
        way(found, 0).append(5)
        self.assertEqual(way(found, 7), [0, 1, 2, 3, 4])
        self.assertEqual(way(found, 0), [])
        self.assertEqual(found, JOIN_STANDS)


if __name__ == "__main__":
    unittest.main()

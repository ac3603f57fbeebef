import unittest

from calmwires.clashes import clashes, need_none
from calmwires.errors import Broken, CalledOff, Clash, Crowded, TooMany
from calmwires.stands import behind, can, stands
from calmwires.texts import read, shown
from tests.samples import (
    CALM_PATCHES, CHOICE, COUNT, EARLY, FOLLOW, JOIN, JOIN_STANDS, Draw, asked, clashes_by_words, mixed, ring,
    sound_by_words, wants_by_words,
)

# As COUNT, but two made wires move at each second fall, in any order.
COUNT_TWO = read(
    "given a\nmade b\nmade c\n"
    "up a : 0 -> 1\ndown a : 1 -> 2 3\nup b : 2 -> 4\nup c : 3 -> 5\n"
    "up a : 4 5 -> 6\ndown a : 6 -> 7 8\ndown b : 7 -> 9\ndown c : 8 -> 10\nup a : 9 10 -> 1\nstart 0 :"
)

# Each is refused by sound, with what it tells, for the most beside it.
UNSOUND = (
    (read("made a\ngiven b\nup b : 0 -> 1\nup a : 1 -> 2\nup a : 2 -> 3\nstart 0 :"), 400, Broken, [0, 1, 2]),
    (read("made a\ngiven b\nup b : 0 -> 1\nup a : 1 -> 2\nstart 0 2 :"), 400, Crowded, [0, 1]),
    (read("made a\ngiven b\nup b : 0 -> 1\nup a : 1 -> 2\ndown b : 1 -> 3\nstart 0 :"), 400, CalledOff, ([0], 2, 1)),
    (JOIN, 7, TooMany, None),
    (COUNT, 5, TooMany, None),
)

# COUNT, and behind its last stand what is refused.
CLASH_AND_MORE = (
    (COUNT[:1] + (COUNT[1] + ((1, True, (5,), (6,)),),) + COUNT[2:], Broken, [0, 1, 2, 3, 4, 6]),
    (COUNT[:1] + (COUNT[1] + ((0, True, (5,), (6,)),),) + (COUNT[2] | 1 << 6, 0), Crowded, [0, 1, 2, 3, 4, 6]),
    (COUNT[:1] + (COUNT[1] + ((0, True, (5,), (6,)),),) + COUNT[2:], CalledOff, ([0, 1, 2, 3, 4], 6, 5)),
)


def with_kinds(graph, *kinds):
    return (tuple((name, kind) for (name, old), kind in zip(graph[0], kinds)),) + graph[1:]


class Clashes(unittest.TestCase):
    """[13]"""

    def test_none(self):
        for graph in CALM_PATCHES + [EARLY]:
            self.assertEqual(clashes(graph, 400), [])

    def test_by_hand(self):
        self.assertEqual(clashes(COUNT, 6), [(0, 2, 1), (3, 5, 1)])

    def test_several_wires(self):
        self.assertEqual([stand[1] for stand in stands(COUNT_TWO, 11)], [0, 1, 0, 2, 4, 6, 7, 6, 4, 2, 0])
        self.assertEqual(clashes(COUNT_TWO, 11), [
            (0, 2, 1), (0, 2, 2), (2, 10, 1), (2, 10, 2), (3, 9, 1), (3, 9, 2), (4, 8, 1), (4, 8, 2), (5, 7, 1), (5, 7, 2),
        ])

    def test_kinds(self):
        self.assertEqual(clashes(with_kinds(COUNT_TWO, "given", "given", "given"), 11), [])
        for kinds, wire in ((("given", "made", "given"), 1), (("given", "given", "made"), 2)):
            told = clashes(with_kinds(COUNT_TWO, *kinds), 11)
            self.assertEqual(told, [(n, m, wire) for n, m in ((0, 2), (2, 10), (3, 9), (4, 8), (5, 7))])
        # Made itself, a clashes too: it wants to rise at the beginning, but not behind its fall.
        self.assertEqual(clashes(with_kinds(COUNT, "made", "given"), 6), [(0, 2, 0), (3, 5, 0)])
        self.assertEqual(clashes(with_kinds(COUNT, "made", "made"), 6), [(0, 2, 0), (0, 2, 1), (3, 5, 0), (3, 5, 1)])

    def test_alike_codes_and_alike_wants(self):
        told = stands(CHOICE, 7)
        self.assertEqual((told[5][1], told[6][1]), (4, 4))
        self.assertEqual(clashes(CHOICE, 7), [])

    def test_three_stands_of_one_code(self):
        # The codes are 0 1 0 1 0 1: the made wire moves behind the third rise alone.
        graph = read(
            "given a\nmade b\nup a : 0 -> 1\ndown a : 1 -> 2\nup a : 2 -> 3\ndown a : 3 -> 4\nup a : 4 -> 5\n"
            "up b : 5 -> 6\nstart 0 :"
        )
        self.assertEqual([stand[1] for stand in stands(graph, 7)], [0, 1, 0, 1, 0, 1, 3])
        self.assertEqual(clashes(graph, 7), [(1, 5, 1), (3, 5, 1)])

    def test_one_wire(self):
        graph = read("made a\nup a : 0 -> 1\ndown a : 1 -> 2\nstart 0 :")
        self.assertEqual(clashes(graph, 3), [(0, 2, 0)])
        self.assertEqual(clashes(with_kinds(graph, "given"), 3), [])
        self.assertEqual(clashes(ring(("made",)), 2), [])

    def test_a_wire_without_steps(self):
        graph = (COUNT[0] + (("n", "made"),),) + COUNT[1:]
        self.assertEqual(clashes(graph, 6), [(0, 2, 1), (3, 5, 1)])
        self.assertEqual(clashes(graph[:3] + (4,), 6), [(0, 2, 1), (3, 5, 1)])

    def test_refusals(self):
        for graph, most, error, what in UNSOUND:
            self.assertEqual(asked(clashes, graph, most), (error, what))
        for graph, error, what in CLASH_AND_MORE:
            self.assertEqual(asked(clashes, graph, 400), (error, what))

    def test_drawn(self):
        many = 0
        for graph in mixed(200):
            found = sound_by_words(graph, 400)
            told = asked(clashes, graph, 400)
            if isinstance(found, tuple):
                self.assertEqual(told, found, shown(graph))
            else:
                self.assertEqual(told, clashes_by_words(graph, found), shown(graph))
                many += len(told) > 1
        self.assertGreater(many, 80)

    def test_many_stands(self):
        most = 0
        for seed in range(6):
            graph = Draw(seed).quilt([COUNT] + CALM_PATCHES)
            told = clashes(graph, 400)
            self.assertEqual(told, clashes_by_words(graph, stands(graph, 400)))
            most = max(most, len(told))
        self.assertGreater(most, 100)

    def test_the_list_is_the_askers_own(self):
        told = clashes(COUNT, 6)
        self.assertIs(type(told), list)
        self.assertEqual([(type(clash), [type(n) for n in clash]) for clash in told], [(tuple, [int] * 3)] * 2)
        told.clear()
        clashes(FOLLOW, 4).append((0, 1, 2))
        self.assertEqual(clashes(FOLLOW, 4), [])
        self.assertEqual(clashes(COUNT, 6), [(0, 2, 1), (3, 5, 1)])


class NeedNone(unittest.TestCase):
    """[14]"""

    def test_the_list_of_stands(self):
        self.assertEqual(need_none(JOIN, 8), JOIN_STANDS)
        for graph in CALM_PATCHES + [EARLY]:
            self.assertEqual(need_none(graph, 400), stands(graph, 400))

    def test_clash(self):
        self.assertEqual(asked(need_none, COUNT, 6), (Clash, ([], [0, 1], 1)))
        self.assertEqual(asked(need_none, COUNT_TWO, 11), (Clash, ([], [0, 1], 1)))
        self.assertEqual(asked(need_none, with_kinds(COUNT_TWO, "given", "given", "made"), 11), (Clash, ([], [0, 1], 2)))

    def test_ways_to_both(self):
        graph = COUNT[:2] + (1 << 1, 1)
        self.assertEqual(clashes(graph, 6), [(1, 5, 1), (2, 4, 1)])
        self.assertEqual(asked(need_none, graph, 6), (Clash, ([1], [1, 2, 3, 4, 5], 1)))

    def test_most(self):
        for graph, many in ((FOLLOW, 4), (JOIN, 8), (COUNT, 6)):
            self.assertEqual(asked(need_none, graph, many - 1), (TooMany, None))
            self.assertNotEqual(asked(need_none, graph, many), (TooMany, None))

    def test_refusals_of_sound_come_first(self):
        for graph, most, error, what in UNSOUND:
            self.assertEqual(asked(need_none, graph, most), (error, what))
        for graph, error, what in CLASH_AND_MORE:
            self.assertEqual(asked(need_none, graph, 400), (error, what))

    def test_drawn(self):
        kinds = {}
        for graph in mixed(200):
            told = asked(need_none, graph, 400)
            found = sound_by_words(graph, 400)
            listed = clashes_by_words(graph, found) if isinstance(found, list) else []
            if listed:
                self.first_clash(graph, found, listed[0], told)
            else:
                self.assertEqual(told, found)
            kind = told[0] if isinstance(told, tuple) else list
            kinds[kind] = kinds.get(kind, 0) + 1
        self.assertTrue(all(kinds.get(kind, 0) > 40 for kind in (CalledOff, Clash, list)), kinds)

    def first_clash(self, graph, found, clash, told):
        self.assertEqual(told[0], Clash)
        one, other, wire = told[1]
        here, there = self.led(graph, one), self.led(graph, other)
        self.assertEqual((here, there, wire), (found[clash[0]][:2], found[clash[1]][:2], clash[2]))
        self.assertEqual(here[1], there[1])
        self.assertNotEqual(wants_by_words(graph, here, wire), wants_by_words(graph, there, wire))

    def led(self, graph, steps):
        stand = graph[2:]
        for step in steps:
            self.assertTrue(can(graph, stand, step))
            stand = behind(graph, stand, step)
        return stand

    def test_what_is_told_is_the_askers_own(self):
        told = need_none(JOIN, 8)
        self.assertIs(type(told), list)
        told.clear()
        for again in range(2):
            with self.assertRaises(Clash) as caught:
                need_none(COUNT, 6)
            self.assertEqual(vars(caught.exception), {"one": [], "other": [0, 1], "wire": 1})
            self.assertEqual([type(part) for part in vars(caught.exception).values()], [list, list, int])
            caught.exception.one.append(7)
            caught.exception.other.clear()
            self.assertEqual(need_none(JOIN, 8), JOIN_STANDS)


if __name__ == "__main__":
    unittest.main()

import unittest

from calmwires.graphs import bits, is_name, made, names, ones, steps_of
from tests.samples import FOLLOW, JOIN, TEN_NAMES, Draw, full_graph

SMALL = "abcdefghijklmnopqrstuvwxyz"
OTHERS = [chr(n) for n in range(32, 127) if chr(n) not in SMALL] + ["\n", "\t", "\u00e9", "\u00df", "\u0430"]


class Names(unittest.TestCase):
    """[3]"""

    def test_lengths(self):
        self.assertIs(is_name(""), False)
        for length in range(1, 9):
            self.assertIs(is_name("q" * length), True)
        self.assertIs(is_name("abcdefgh"), True)
        self.assertIs(is_name("abcdefghi"), False)
        self.assertIs(is_name("q" * 5000), False)

    def test_each_letter(self):
        for letter in SMALL:
            self.assertIs(is_name(letter), True, letter)
            self.assertIs(is_name("ab" + letter), True, letter)

    def test_words(self):
        for word in ("given", "made", "up", "down", "start"):
            self.assertIs(is_name(word), False, word)
            self.assertIs(is_name(word + "s"), True, word)
            self.assertIs(is_name("a" + word), True, word)
            self.assertIs(is_name(word[1:]), True, word)

    def test_other_signs_at_any_place(self):
        for sign in OTHERS:
            for text in (sign, sign + "abc", "ab" + sign + "c", "abc" + sign, "abcdefg" + sign, sign * 3):
                self.assertIs(is_name(text), False, text)

    def test_capitals(self):
        for text in ("A", "Abc", "aBc", "abC", "UP", "Start"):
            self.assertIs(is_name(text), False, text)


class Bits(unittest.TestCase):
    """[3]"""

    def test_bits(self):
        for some, number in (
            ([], 0), ((), 0), ([0], 1), ((0,), 1), ([3, 1], 10), ((1, 3), 10), ([2, 2], 4),
            ((5, 0, 5, 0, 5), 33), ([63], 2**63), ([99, 0], 2**99 + 1), (tuple(range(100)), 2**100 - 1),
            (list(reversed(range(100))), 2**100 - 1),
        ):
            self.assertEqual(bits(some), number, some)
            self.assertIs(type(bits(some)), int)

    def test_the_list_stays(self):
        some = [7, 3, 7, 0]
        bits(some)
        self.assertEqual(some, [7, 3, 7, 0])

    def test_ones(self):
        for number, places in (
            (0, []), (1, [0]), (2, [1]), (10, [1, 3]), (2**63, [63]), (2**99, [99]), (2**99 + 5, [0, 2, 99]),
            (2**100 - 1, list(range(100))), (2**64 - 2, list(range(1, 64))),
        ):
            self.assertEqual(ones(number), places)
            self.assertIs(type(ones(number)), list)

    def test_there_and_back(self):
        draw = Draw(1)
        for case in range(200):
            some = draw.some(100, 0, 20)
            self.assertEqual(ones(bits(some)), list(some))

    def test_ones_is_the_askers_own(self):
        ones(5).append(9)
        self.assertEqual(ones(5), [0, 2])


class Parts(unittest.TestCase):
    """[4]"""

    def test_names(self):
        self.assertEqual(names(FOLLOW), ["a", "b"])
        self.assertEqual(names(JOIN), ["x", "y", "out"])
        self.assertEqual(names(full_graph()), list(TEN_NAMES))

    def test_made(self):
        self.assertEqual(made(FOLLOW), [1])
        self.assertEqual(made(JOIN), [2])
        self.assertEqual(made(full_graph()), [1, 2, 4, 5, 7, 8])
        self.assertEqual(made(((("a", "given"),), ((0, True, (0,), (0,)),), 0, 0)), [])
        self.assertEqual(made(((("a", "made"),), ((0, True, (0,), (0,)),), 0, 0)), [0])

    def test_steps_of(self):
        self.assertEqual(steps_of(FOLLOW, 0, True), [0])
        self.assertEqual(steps_of(FOLLOW, 0, False), [2])
        self.assertEqual(steps_of(FOLLOW, 1, True), [1])
        self.assertEqual(steps_of(FOLLOW, 1, False), [3])

    def test_steps_of_many(self):
        graph = full_graph()
        told = []
        for wire in range(10):
            for up in (True, False):
                steps = steps_of(graph, wire, up)
                self.assertEqual(steps, sorted(steps))
                for k in steps:
                    self.assertEqual(graph[1][k][:2], (wire, up))
                told += steps
        self.assertEqual(sorted(told), list(range(24)))

    def test_several_steps_of_one_kind(self):
        step = (1, False, (0,), (1,))
        graph = (FOLLOW[0], (step, FOLLOW[1][0], step, step), 1, 0)
        self.assertEqual(steps_of(graph, 1, False), [0, 2, 3])
        self.assertEqual(steps_of(graph, 1, True), [])
        self.assertEqual(steps_of(graph, 0, True), [1])

    def test_a_wire_without_steps(self):
        self.assertEqual(steps_of(full_graph(), 9, True), [])
        self.assertEqual(steps_of(full_graph(), 9, False), [])

    def test_lists_are_the_askers_own(self):
        for ask in (names, made, lambda graph: steps_of(graph, 2, True)):
            told = ask(JOIN)
            again = ask(JOIN)
            self.assertIs(type(told), list)
            self.assertIsNot(told, again)
            kept = list(again)
            told.clear()
            again.append("more")
            self.assertEqual(ask(JOIN), kept)


if __name__ == "__main__":
    unittest.main()

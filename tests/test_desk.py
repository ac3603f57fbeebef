import copy
import unittest

from calmwires.clashes import clashes, need_none
from calmwires.desk import answered, shown_net
from calmwires.errors import Broken, CalledOff, Clash, Crowded, TooMany
from calmwires.gates import good_fall, good_rise
from calmwires.graphs import made, names
from calmwires.plays import apart
from calmwires.putting import parted
from calmwires.stands import stands
from calmwires.texts import read, shown
from tests.samples import (
    CHOICE, COUNT, EARLY, FOLLOW, FOLLOW_TEXT, GIVE_BACK, JOIN, LONE, NEST, Draw, asked, calm_graphs, full_graph, mixed,
    parted_by_words, ring, stands_by_ways,
)

NEST_TEXT = shown(NEST)

# Eight steps and forty stands; with a wire put in it has no clash, within 80 stands.
FORTY = read(
    "made a\nmade b\ngiven c\ngiven d\ngiven e\ngiven f\n"
    "up b : 0 -> 1 22\ndown b : 1 -> 2\ndown a : 2 20 -> 3\nup a : 3 -> 0 20\n"
    "up c : 4 -> 5\nup d : 6 -> 7\nup e : 8 -> 9\nup f : 10 22 -> 11\nstart 0 4 6 8 10 : a"
)
FORTY_ONE = read(
    "made a\nmade b\ngiven c\ngiven d\ngiven e\ngiven f\n"
    "up b : 0 -> 1\ndown b : 1 21 -> 2 20\ndown a : 2 23 -> 3 22\nup a : 3 -> 0\n"
    "up c : 4 24 -> 5\ndown c : 5 -> 4\nup d : 6 22 -> 7 23 24\nup e : 8 20 -> 9 21\nstart 0 4 6 8 21 23 : a"
)


def row_by_words(graph, row):
    if row == (0, 0):
        return "always"
    return " ".join(
        ("" if row[1] >> wire & 1 else "-") + name
        for wire, (name, kind) in enumerate(graph[0]) if row[0] >> wire & 1
    )


def net_by_words(graph, net):
    """What [28] says."""
    told = []
    for wire, rises, falls in net:
        for word, gates in (("up", rises), ("down", falls)):
            rows = [row_by_words(graph, row) for gate in gates for row in gate]
            told.append(f"{graph[0][wire][0]} {word} {' | '.join(rows) or 'never'}")
    return "\n".join(told)


class ShownNet(unittest.TestCase):
    """[28]"""

    def test_by_hand(self):
        self.assertEqual(shown_net(FOLLOW, ((1, (((3, 1),),), (((3, 2),),)),)), "b up a -b\nb down -a b")

    def test_each_care(self):
        for care, level, row in (
            (1, 1, "x"), (1, 0, "-x"), (2, 2, "y"), (2, 0, "-y"), (4, 4, "out"), (4, 0, "-out"), (3, 3, "x y"),
            (3, 0, "-x -y"), (5, 4, "-x out"), (6, 2, "y -out"), (7, 7, "x y out"), (7, 5, "x -y out"), (7, 0, "-x -y -out"),
            (0, 0, "always"),
        ):
            self.assertEqual(shown_net(JOIN, ((2, (((care, level),),), ()),)), f"out up {row}\nout down never")
            self.assertEqual(shown_net(JOIN, ((2, ((),), (((care, level),),)),)), f"out up never\nout down {row}")

    def test_several_rows_and_gates(self):
        net = ((2, (((3, 3), (1, 0)), (), ((0, 0),), ((4, 4), (4, 4))), (((7, 0),), ((2, 2),))),)
        self.assertEqual(
            shown_net(JOIN, net), "out up x y | -x | always | out | out\nout down -x -y -out | y"
        )
        self.assertEqual(shown_net(JOIN, apart(net)), shown_net(JOIN, net))

    def test_never(self):
        for empty in ((), ((),), ((), (), ())):
            self.assertEqual(shown_net(LONE, ((0, empty, empty),)), "n up never\nn down never")

    def test_several_wires(self):
        net = ((1, (((1, 1),),), ()), (2, (((1, 0),),), (((0, 0),),)))
        self.assertEqual(shown_net(GIVE_BACK, net), "c up a\nc down never\nd up -a\nd down always")

    def test_no_wires(self):
        self.assertEqual(shown_net(EARLY, ()), "")

    def test_drawn(self):
        for seed, graph in enumerate(mixed(30) + [full_graph()] * 5):
            net = Draw(seed).net(graph)
            kept = copy.deepcopy(net)
            self.assertEqual(shown_net(graph, net), net_by_words(graph, net))
            self.assertEqual(net, kept)

    def test_any_number_of_gates_and_rows(self):
        gate = tuple((1023, code) for code in range(1024))
        net = tuple((wire, (gate,) * 9, ()) for wire in range(10))
        graph = ring(("made",) * 10)
        self.assertEqual(shown_net(graph, net), net_by_words(graph, net))


class Refused(unittest.TestCase):
    """[29]"""

    def test_no_graph(self):
        for text, line in (
            ("", 1), ("nothing", 1), ("given a", 2), ("given a\ngiven a", 2), ("start :", 1), (FOLLOW_TEXT + "\n", 8),
            (FOLLOW_TEXT[:-1], 7), (FOLLOW_TEXT.replace("up b", "up c"), 4), (FOLLOW_TEXT.replace("made", "Made"), 2),
            ("\n" + FOLLOW_TEXT, 1), (FOLLOW_TEXT + "\nstart :", 8), ("given a\nup a : 0 -> 1", 3),
        ):
            self.assertEqual(answered(text, 400), f"no graph {line}")
            self.assertEqual(answered(text, 1), f"no graph {line}")

    def test_broken(self):
        self.assertEqual(answered("given a\nup a : 0 -> 1\nup a : 1 -> 2\nstart 0 :", 400), "broken 0 1")
        self.assertEqual(answered("given a\nup a : 0 -> 1\nstart 0 : a", 400), "broken 0")

    def test_crowded(self):
        self.assertEqual(answered("given a\ngiven b\nup b : 4 -> 5\nup a : 5 -> 1\nstart 1 4 :", 400), "crowded 0 1")
        self.assertEqual(answered("made a\nup a : 0 -> 1\nstart 0 1 :", 1), "crowded 0")

    def test_too_many(self):
        self.assertEqual(answered(FOLLOW_TEXT, 3), "too many")
        self.assertEqual(answered(shown(COUNT), 5), "too many")
        self.assertEqual(answered(shown(NEST), 1), "too many")

    def test_called_off(self):
        early = ((("a", "given"), ("c", "made")),) + EARLY[1:]
        self.assertEqual(answered(shown(early), 400), "called off 0 lost 2 by 1")
        self.assertEqual(
            answered("made a\ngiven b\nup b : 0 -> 1\nup a : 0 -> 2\nstart 0 :", 400), "called off - lost 1 by 0"
        )
        # Steps of two figures, and a way of several steps.
        rows = ["given x", "made y", "up x : 0 -> 1", "down x : 1 -> 2"] + ["up x : 40 -> 41"] * 8
        rows += ["up y : 2 -> 3", "up x : 2 -> 4", "start 0 :"]
        self.assertEqual(answered("\n".join(rows), 400), "called off 0 1 lost 11 by 10")

    def test_drawn(self):
        many = {}
        for graph in mixed(150) + [Draw(seed).cycle() for seed in range(20)]:
            told = asked(need_none, graph, 30)
            kind = told[0] if isinstance(told, tuple) else None
            many[kind] = many.get(kind, 0) + 1
            self.assertEqual(answered(shown(graph), 30).split("\n")[0], self.first_row(graph, told), shown(graph))
        self.assertTrue(all(many.get(kind, 0) > 10 for kind in (Broken, Crowded, TooMany, CalledOff, Clash, None)), many)

    def first_row(self, graph, told):
        if isinstance(told, list):
            return f"calm {len(told)}"
        error, what = told
        if error == TooMany:
            return "too many"
        if error == CalledOff:
            return f"called off {self.way(what[0])} lost {what[1]} by {what[2]}"
        if error == Clash:
            return f"clash {names(graph)[what[2]]} : {self.way(what[0])} : {self.way(what[1])}"
        return f"{error.__name__.lower()} {self.way(what)}"

    def way(self, steps):
        return " ".join(map(str, steps)) or "-"


class Calm(unittest.TestCase):
    """[29]"""

    def test_without_a_made_wire(self):
        self.assertEqual(answered(shown(EARLY), 400), "calm 4")
        self.assertEqual(answered(shown(EARLY), 4), "calm 4")
        self.assertEqual(answered(shown(ring(("given",) * 10)), 400), "calm 20")

    def test_with_made_wires(self):
        for graph in calm_graphs(10):
            self.check(graph, answered(shown(graph), 400))

    def check(self, graph, text):
        """The rows are those of good gates: they are read back and tried."""
        rows = text.split("\n")
        self.assertEqual(rows[0], f"calm {len(stands(graph, 400))}")
        self.assertEqual(len(rows), 1 + 2 * len(made(graph)))
        for place, wire in enumerate(made(graph)):
            for row, word, good in ((rows[1 + 2 * place], "up", good_rise), (rows[2 + 2 * place], "down", good_fall)):
                name, direction, shown_rows = row.split(" ", 2)
                self.assertEqual((name, direction), (names(graph)[wire], word))
                self.assertIs(good(graph, 400, wire, self.gate(graph, shown_rows)), True, text)

    def gate(self, graph, text):
        if text == "never":
            return ()
        return tuple(self.row(graph, row) for row in text.split(" | "))

    def row(self, graph, text):
        care = level = 0
        for word in text.split(" ") if text != "always" else []:
            bit = 1 << names(graph).index(word.lstrip("-"))
            care, level = care | bit, level | (0 if word.startswith("-") else bit)
        return (care, level)

    def test_a_wire_without_steps(self):
        self.check(LONE, answered(shown(LONE), 2))

    def test_a_graph_without_a_clash_has_no_put(self):
        self.assertNotIn("put", answered(shown(ring(("made", "made"))), 80))
        self.assertIsNotNone(parted(ring(("made", "made")), "q", 80))


class Put(unittest.TestCase):
    """[29]"""

    def test_by_hand(self):
        self.assertEqual(answered(NEST_TEXT, 80), "clash a : - : 0 1\nput 1 3")
        self.assertEqual(answered(shown(COUNT), 80), "clash b : - : 0 1\nput none")

    def test_ways_that_are_not_empty(self):
        self.assertEqual(answered(shown(NEST[:2] + (2, 3)), 80).split("\n")[0], "clash a : 1 : 1 2 3")
        self.assertEqual(answered(shown(COUNT[:2] + (1 << 1, 1)), 80), "clash b : 1 : 1 2 3 4 5\nput none")

    def test_the_same_most(self):
        # With the wire there are six stands.
        for most, row in ((4, "put none"), (5, "put none"), (6, "put 1 3"), (7, "put 1 3"), (80, "put 1 3")):
            self.assertEqual(answered(NEST_TEXT, most), "clash a : - : 0 1\n" + row)

    def test_most_80_and_81(self):
        self.assertEqual(answered(NEST_TEXT, 80), "clash a : - : 0 1\nput 1 3")
        for most in (81, 82, 400):
            self.assertEqual(answered(NEST_TEXT, most), "clash a : - : 0 1")

    def test_nine_and_ten_wires(self):
        for many, behind in ((8, "\nput 1 3"), (9, "\nput 1 3"), (10, "")):
            for kind in ("given", "made"):
                rows = "".join(f"{kind} {'w' * (1 + n)}\n" for n in range(many - 2))
                text = NEST_TEXT.replace("made b\n", "made b\n" + rows)
                self.assertEqual(len(read(text)[0]), many)
                self.assertEqual(answered(text, 80), "clash a : - : 0 1" + behind)

    def test_eight_and_nine_steps(self):
        for many, behind in ((7, "\nput 1 3"), (8, "\nput 1 3"), (9, ""), (22, ""), (23, ""), (24, "")):
            text = NEST_TEXT.replace("start", "up a : 50 -> 51\n" * (many - 4) + "start")
            self.assertEqual(len(read(text)[1]), many)
            self.assertEqual(answered(text, 80), "clash a : - : 0 1" + behind)

    def test_40_and_41_stands(self):
        self.assertEqual((len(stands(FORTY, 400)), len(stands(FORTY_ONE, 400))), (40, 41))
        self.assertEqual((len(FORTY[1]), len(FORTY_ONE[1])), (8, 8))
        self.assertEqual(answered(shown(FORTY), 80), "clash b : - : 0 1\nput 1 2")
        self.assertEqual(answered(shown(FORTY), 40), "clash b : - : 0 1\nput none")
        self.assertEqual(answered(shown(FORTY), 39), "too many")
        self.assertEqual(answered(shown(FORTY_ONE), 80), "clash a : - : 0 1")
        self.assertEqual(answered(shown(FORTY_ONE), 41), "clash a : - : 0 1")
        self.assertEqual(answered(shown(FORTY_ONE), 40), "too many")

    def test_two_spots_left_and_one(self):
        # NEST has the spots 0 to 3.
        for left, behind in ((3, "\nput 1 3"), (2, "\nput 1 3"), (1, ""), (0, "")):
            spots = " ".join(str(spot) for spot in range(4, 64 - left))
            text = NEST_TEXT.replace("start 0", "start 0 " + spots)
            self.assertEqual(answered(text, 80), "clash a : - : 0 1" + behind)

    def test_names_that_the_desk_might_like(self):
        letters = "abcdefghijklmnopqrstuvwxyz"
        for name in list(letters) + ["zz", "new", "put", "wire", "own", "desk", "csc", "none", "aa", "zzzzzzzz"]:
            text = NEST_TEXT.replace("made b\n", f"made b\ngiven {name}\n" if name not in "ab" else "made b\n")
            self.assertEqual(answered(text, 80), "clash a : - : 0 1\nput 1 3", name)
        for start in range(len(letters)):
            chosen = [letters[(start + k) % 26] for k in range(9)]
            graph = (tuple((name, "made") for name in chosen),) + NEST[1:]
            self.assertEqual(answered(shown(graph), 80), f"clash {chosen[0]} : - : 0 1\nput 1 3")

    def test_drawn(self):
        rows = {}
        graphs = [Draw(seed).cycle() for seed in range(120)] + mixed(80, 30)
        for graph in graphs:
            told = asked(clashes, graph, 80)
            if not isinstance(told, list) or told == []:
                continue
            within = len(graph[1]) <= 8 and len(graph[0]) <= 9 and len(stands_by_ways(graph, 80)) <= 40
            answer = answered(shown(graph), 80).split("\n")[1:]
            best = parted_by_words(graph, "qq", 80) if within else None
            row = "put none" if best is None else f"put {best[0]} {best[1]}"
            self.assertEqual(answer, [row] if within else [], shown(graph))
            kind = (within, best is None)
            rows[kind] = rows.get(kind, 0) + 1
        self.assertTrue(all(rows.get(kind, 0) > 10 for kind in ((True, True), (True, False), (False, True))), rows)


class Again(unittest.TestCase):
    """[1]"""

    def test_asked_again(self):
        texts = [shown(graph) for graph in mixed(40) + [Draw(seed).cycle() for seed in range(40)]] + ["", "given a"]
        told = [answered(text, 80) for text in texts]
        self.assertEqual([answered(text, 80) for text in reversed(texts)], list(reversed(told)))


if __name__ == "__main__":
    unittest.main()

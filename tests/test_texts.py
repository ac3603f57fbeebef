import re
import unittest

from calmwires.errors import NoText
from calmwires.texts import read, shown
from tests.samples import FOLLOW, FOLLOW_TEXT, JOIN, Draw, full_graph

NAME = "(?!(?:given|made|up|down|start)(?![a-z]))[a-z]{1,8}"
SPOT = "(?:[0-9]|[1-5][0-9]|6[0-3])"
WIRE = re.compile(f"(?:given|made) ({NAME})")
STEP = re.compile(f"(?:up|down) ({NAME}) : ({SPOT}(?: {SPOT})*) -> ({SPOT}(?: {SPOT})*)")
START = re.compile(f"start((?: {SPOT})*) :((?: {NAME})*)")


def climbs(numbers):
    return all(one < other for one, other in zip(numbers, numbers[1:]))


def first_wrong(text):
    """The first wrong row by the words of the promise, or None; told by patterns, apart from the program."""
    known, steps, started, rows = [], 0, False, text.split("\n")
    for line, row in enumerate(rows, 1):
        wire, step, start = WIRE.fullmatch(row), STEP.fullmatch(row), START.fullmatch(row)
        if wire and not steps and not started and wire[1] not in known and len(known) < 10:
            known.append(wire[1])
        elif step and not started and step[1] in known and steps < 24:
            if not all(climbs([int(spot) for spot in step[side].split()]) for side in (2, 3)):
                return line
            steps += 1
        elif start and steps and not started:
            if not set(start[2].split()) <= set(known):
                return line
            up = [known.index(name) for name in start[2].split()]
            if not climbs(up) or not climbs([int(spot) for spot in start[1].split()]):
                return line
            started = True
        else:
            return line
    return None if started else len(rows) + 1


def with_start(start):
    return "\n".join(FOLLOW_TEXT.split("\n")[:-1] + [start])


def with_step(step):
    rows = FOLLOW_TEXT.split("\n")
    rows[3] = step
    return "\n".join(rows)


def kinds(value):
    return (type(value), tuple(kinds(part) for part in value) if isinstance(value, tuple) else None)


class Shown(unittest.TestCase):
    """[5]"""

    def test_row_by_row(self):
        self.assertEqual(shown(FOLLOW), FOLLOW_TEXT)
        self.assertEqual(shown(JOIN).split("\n"), [
            "given x", "given y", "made out",
            "up x : 0 -> 2", "up y : 1 -> 3", "up out : 2 3 -> 4 5",
            "down x : 4 -> 6", "down y : 5 -> 7", "down out : 6 7 -> 0 1",
            "start 0 1 :",
        ])

    def test_start(self):
        for marks, code, row in (
            (0, 0, "start :"), (1, 0, "start 0 :"), (0, 1, "start : a"), (0, 2, "start : b"), (0, 3, "start : a b"),
            (2**63, 0, "start 63 :"), (2**63 + 2**10 + 1, 3, "start 0 10 63 : a b"),
            (2**64 - 1, 2, "start " + " ".join(str(n) for n in range(64)) + " : b"),
        ):
            self.assertEqual(shown(FOLLOW[:2] + (marks, code)), with_start(row))

    def test_spots(self):
        for takes, fills, row in (
            ((0,), (63,), "up b : 0 -> 63"), ((0, 63), (0, 63), "up b : 0 63 -> 0 63"),
            ((9, 10, 11), (5,), "up b : 9 10 11 -> 5"), ((7,), (7,), "up b : 7 -> 7"),
        ):
            steps = FOLLOW[1][:1] + ((1, True, takes, fills),) + FOLLOW[1][2:]
            self.assertEqual(shown((FOLLOW[0], steps, 1, 0)), with_step(row))

    def test_full(self):
        rows = shown(full_graph()).split("\n")
        self.assertEqual(len(rows), 35)
        self.assertEqual(rows[7], "made hhhhhhhh")
        self.assertEqual(rows[10], "up a : 0 63 -> 1 40 63")
        self.assertEqual(rows[33], "down hhhhhhhh : 23 40 -> 24 40 63")
        self.assertEqual(rows[34], "start 0 63 : a y")

    def test_no_row_behind(self):
        self.assertFalse(shown(FOLLOW).endswith("\n"))


class Read(unittest.TestCase):
    """[6]"""

    def there_and_back(self, graph):
        text = shown(graph)
        again = read(text)
        self.assertEqual(again, graph)
        self.assertEqual(kinds(again), kinds(graph))
        self.assertEqual(shown(again), text)

    def test_there_and_back(self):
        self.assertEqual(read(FOLLOW_TEXT), FOLLOW)
        for graph in (FOLLOW, JOIN, full_graph()):
            self.there_and_back(graph)

    def test_smallest(self):
        self.assertEqual(
            read("made a\nup a : 0 -> 0\nstart :"),
            ((("a", "made"),), ((0, True, (0,), (0,)),), 0, 0),
        )

    def test_starts(self):
        for marks in (0, 1, 2**63, 2**64 - 1, 2**63 + 1):
            for code in range(4):
                self.there_and_back(FOLLOW[:2] + (marks, code))

    def test_drawn(self):
        for seed in range(300):
            self.there_and_back(Draw(seed).graph(64))

    def test_long_text(self):
        step = (0, True, tuple(range(20)), tuple(range(20, 63)))
        graph = ((("hhhhhhhh", "given"),), (step,) * 24, 2**64 - 1, 1)
        self.assertTrue(4500 < len(shown(graph)) <= 6000)
        self.there_and_back(graph)

    def test_twice_the_same(self):
        self.assertEqual(read(FOLLOW_TEXT), read(FOLLOW_TEXT))


class Wrong(unittest.TestCase):
    """[6]"""

    def refused(self, text, line):
        self.assertEqual(first_wrong(text), line, text)
        with self.assertRaises(NoText, msg=text) as caught:
            read(text)
        self.assertEqual(caught.exception.line, line, text)
        self.assertIs(type(caught.exception.line), int)

    def in_place(self, line, row):
        """The row is wrong at that line, whatever wrong rows come behind it, and where it is the last."""
        rows = FOLLOW_TEXT.split("\n")
        rows[line - 1] = row
        self.refused("\n".join(rows), line)
        self.refused("\n".join(rows[:line]), line)
        self.refused("\n".join(rows[:line] + ["wrong"] + rows[line:] + [""]), line)
        self.refused("\n".join(rows[:line] + rows[line:-1]), line)

    def test_wire_rows(self):
        for row in (
            "", " ", "b", "made", "made ", " made b", "made  b", "made b ", "made b c", "taken b", "Made b", "madeb",
            "made b :", "made B", "made abcdefghi", "made b1", "made 7", "made b-", "made given", "made made",
            "made up", "made down", "made start", "given a", "made a", "made\tb", "made b\r", "made \u00e9",
        ):
            self.in_place(2, row)

    def test_first_row(self):
        for row in ("", "up a : 0 -> 1", "start :", "start 0 :", "given", "given up", "given ", " given a", "a given"):
            self.in_place(1, row)

    def test_step_words(self):
        for row in (
            "", " ", "up", "up b", "up b :", "b", "up b 1 -> 2", "up : 1 -> 2", "up b : 1 2", "up b :1 -> 2",
            "up b: 1 -> 2", "up b : : 1 -> 2", "up b : 1 : -> 2", "up b : 1 -> 2 :", "up b : 1 -> 2 b",
            "up b a : 1 -> 2", "Up b : 1 -> 2", "rise b : 1 -> 2", "b up : 1 -> 2", "up b : 1 - > 2", "up b : 1 > 2",
            "up b : 1 <- 2", "up b : 1->2", "up b : 1 ->2", "up b : 1-> 2", "up b ; 1 -> 2", "-> up b : 1 2",
            "up -> : 1 -> 2", "up b -> 1 : 2", "start b : 1 -> 2", "given b : 1 -> 2", ": b up 1 -> 2",
        ):
            self.in_place(4, row)

    def test_step_blanks(self):
        good = "up b : 1 2 -> 3 4"
        read(with_step(good))
        self.in_place(4, " " + good)
        self.in_place(4, good + " ")
        for place, sign in enumerate(good):
            if sign == " ":
                self.in_place(4, good[:place] + " " + good[place:])
                self.in_place(4, good[:place] + "\t" + good[place + 1:])
        for row in ("upb : 1 2 -> 3 4", "up b: 1 2 -> 3 4", "up b :1 2 -> 3 4", "up b : 1 2-> 3 4", "up b : 1 2 ->3 4"):
            self.in_place(4, row)

    def test_step_names(self):
        for name in ("c", "ab", "B", "up", "start", "given", "b1", "1", "", ":", "abcdefghi"):
            self.in_place(4, f"up {name} : 1 -> 2")

    def test_spots(self):
        for spot in (
            "64", "65", "70", "99", "100", "128", "630", "00", "01", "063", "007", "-1", "+1", "1.", "1.0", "0x1", "1_0",
            "a", "b", "one", "", "1,", "1e1", "~", "^2", "'1'", "1" * 5000, "0" * 5000, "9" * 4301, "\u0661", "\u00b2",
        ):
            self.in_place(4, f"up b : {spot} -> 2")
            self.in_place(4, f"up b : 1 -> {spot}")
            self.in_place(4, f"up b : 0 {spot} -> 2")
            self.in_place(4, f"up b : 1 -> 0 {spot}")
            self.in_place(7, f"start {spot} :")
            self.in_place(7, f"start 0 {spot} : a")

    def test_order_of_spots(self):
        for some in ("1 1", "2 1", "0 0", "63 0", "10 9", "1 3 2", "1 2 2", "2 1 3", "1 2 3 1"):
            self.in_place(4, f"up b : {some} -> 2")
            self.in_place(4, f"up b : 1 -> {some}")
            self.in_place(7, f"start {some} :")
            self.in_place(7, f"start {some} : a b")

    def test_spots_by_their_numbers(self):
        self.assertEqual(read(with_step("up b : 9 10 -> 2 11"))[1][1], (1, True, (9, 10), (2, 11)))

    def test_takes_fills_arrows(self):
        for row in (
            "up b : -> 2", "up b : 1 ->", "up b : ->", "up b :  -> 2", "up b : 1 -> ", "up b : 1", "up b : 1 2",
            "up b : 1 -> 2 -> 3", "up b : 1 -> -> 2", "up b : -> 1 -> 2", "up b : 1 -> 2 ->", "up b : -> ->",
        ):
            self.in_place(4, row)

    def test_start_rows(self):
        for row in (
            "", " ", "start", "start ", "start 0", "start a", "start 0 a", ":", "0 :", "begin :", "Start :", "start:",
            " start :", "start : ", "start  :", "start 0  :", "start  0 :", "start 0 : ", "start : a ", "start :  a",
            "start : a  b", "start :a", "start 0: a", "start : :", "start 0 : a :", "start : 0", "start a :",
            "start 0 : 1", "start 0 -> : a", "start 0 ; a", "start : A", "start : c", "start : ab", "start : a c",
            "start : given", "start : up", "start : b a", "start : a a", "start : a b a", "start : a b b",
            "start\t:", "start :\r",
        ):
            self.in_place(7, row)

    def test_names_by_their_numbers(self):
        rows = ["given b", "made a", "up a : 0 -> 1"]
        self.assertEqual(read("\n".join(rows + ["start : b a"]))[3], 3)
        self.refused("\n".join(rows + ["start : a b"]), 4)

    def test_rows_at_another_place(self):
        rows = FOLLOW_TEXT.split("\n")
        self.refused("\n".join(rows[2:] + rows[:2]), 1)
        self.refused("\n".join(rows[:2] + rows[-1:]), 3)
        self.refused("\n".join(rows[:2] + rows[-1:] + rows[2:-1]), 3)
        self.refused("\n".join(rows[:3] + ["made c"] + rows[3:]), 4)
        self.refused("\n".join(rows[:1] + rows[3:]), 2)
        self.refused("\n".join([rows[0], rows[2], rows[1]] + rows[3:]), 3)

    def test_behind_the_start(self):
        for row in ("", " ", "start :", "start 0 :", "up a : 0 -> 1", "given c", "wrong"):
            self.refused(FOLLOW_TEXT + "\n" + row, 8)
            self.refused(FOLLOW_TEXT + "\n" + row + "\n\n", 8)

    def test_rows_without_signs(self):
        rows = FOLLOW_TEXT.split("\n")
        for place in range(8):
            self.refused("\n".join(rows[:place] + [""] + rows[place:]), place + 1)

    def test_no_start(self):
        rows = FOLLOW_TEXT.split("\n")
        for many in range(1, 7):
            self.refused("\n".join(rows[:many]), many + 1)
            self.refused("\n".join(rows[:many]) + "\n", many + 1)
        self.refused("", 1)
        self.refused("\n", 1)
        self.refused(" ", 1)

    def test_eleven_wires(self):
        rows = shown(full_graph()).split("\n")
        read("\n".join(rows))
        self.refused("\n".join(rows[:10] + ["made k"] + rows[10:]), 11)
        self.refused("\n".join(rows[:10] + ["made k", "made k"] + rows[10:]), 11)
        self.refused("\n".join(rows[:10] + ["made k"]), 11)
        self.refused("\n".join(rows[:10]), 11)

    def test_25_steps(self):
        rows = shown(full_graph()).split("\n")
        more = "up a : 0 -> 1"
        self.refused("\n".join(rows[:34] + [more] + rows[34:]), 35)
        self.refused("\n".join(rows[:34] + [more, more] + rows[34:]), 35)
        self.refused("\n".join(rows[:34] + [more]), 35)
        self.refused("\n".join(rows[:34]), 35)
        self.refused("\n".join(rows[:33]), 34)

    def test_very_long_rows(self):
        for row in ("up " * 2000, "1 " * 3000, "start " + "1" * 5990, ":" * 6000, " " * 6000):
            self.refused(row, 1)
        self.refused("\n" * 6000, 1)
        self.refused(with_start("start " + "9" * 5000 + " :"), 7)

    def test_one_sign_changed_anywhere(self):
        for text in (shown(JOIN), with_start("start 0 12 63 : a b")):
            for place in range(len(text) + 1):
                for sign in " \n:->0169abugdms":
                    for changed in (text[:place] + sign + text[place:], text[:place] + sign + text[place + 1:]):
                        self.as_first_wrong(changed)
                self.as_first_wrong(text[:place] + text[place + 1:])
                self.as_first_wrong(text[:place])

    def test_rows_drawn(self):
        draw = Draw(3)
        stock = shown(JOIN).split("\n") + FOLLOW_TEXT.split("\n") + ["", "start :", "start : x", "made z", "up x : 1 2 -> 1"]
        for case in range(4000):
            rows = shown(JOIN).split("\n")
            for change in range(1 + draw.below(2)):
                place = draw.below(len(rows))
                rows[place:place + draw.below(3)] = [stock[draw.below(len(stock))]]
            self.as_first_wrong("\n".join(rows))

    def as_first_wrong(self, text):
        line = first_wrong(text)
        if line is None:
            self.assertEqual(shown(read(text)), text)
        else:
            self.refused(text, line)


if __name__ == "__main__":
    unittest.main()

import unittest

from calmwires.rows import fits, is_up, row_of
from tests.samples import Draw, up_by_words

ALL_TEN = 2**10 - 1


def rows_of(wires):
    """Each row over so many wires, with its care and its pattern: 1, 0 or a dot for each wire."""
    for number in range(3**wires):
        pattern = [".01"[number // 3**wire % 3] for wire in range(wires)]
        care = sum(1 << wire for wire, sign in enumerate(pattern) if sign != ".")
        level = sum(1 << wire for wire, sign in enumerate(pattern) if sign == "1")
        yield (care, level), pattern


def fits_pattern(pattern, code):
    return all(sign == "." or int(sign) == code >> wire & 1 for wire, sign in enumerate(pattern))


class Rows(unittest.TestCase):
    """[15]"""

    def test_no_care(self):
        for code in (0, 1, 5, ALL_TEN):
            self.assertIs(fits((0, 0), code), True)

    def test_all_care(self):
        for level in (0, 1, 6, 512, ALL_TEN):
            for code in (0, 1, 6, 7, 512, 513, ALL_TEN):
                self.assertIs(fits((ALL_TEN, level), code), code == level)

    def test_some_care(self):
        self.assertIs(fits((5, 1), 1), True)
        self.assertIs(fits((5, 1), 3), True)
        self.assertIs(fits((5, 1), 0), False)
        self.assertIs(fits((5, 1), 5), False)
        self.assertIs(fits((5, 0), 2), True)
        self.assertIs(fits((5, 0), 7), False)
        self.assertIs(fits((512, 512), 512 + 3), True)
        self.assertIs(fits((512, 0), 512 + 3), False)

    def test_each_row_of_four_wires(self):
        for row, pattern in rows_of(4):
            for code in range(16):
                self.assertIs(fits(row, code), fits_pattern(pattern, code), (row, code))

    def test_row_of(self):
        self.assertEqual(row_of(5, 0), (0, 0))
        self.assertEqual(row_of(5, 7), (7, 5))
        self.assertEqual(row_of(5, 3), (3, 1))
        self.assertEqual(row_of(5, 2), (2, 0))
        self.assertEqual(row_of(0, ALL_TEN), (ALL_TEN, 0))
        self.assertEqual(row_of(ALL_TEN, 513), (513, 513))

    def test_row_of_is_the_only_one(self):
        for care in range(16):
            for code in range(16):
                told = row_of(code, care)
                self.assertIs(type(told), tuple)
                self.assertEqual([type(part) for part in told], [int, int])
                fitting = [row for row, pattern in rows_of(4) if row[0] == care and fits_pattern(pattern, code)]
                self.assertEqual([told], fitting)


class Gates(unittest.TestCase):
    """[15]"""

    def test_no_rows(self):
        for code in (0, 1, ALL_TEN):
            self.assertIs(is_up((), code), False)

    def test_everywhere(self):
        for code in (0, 1, ALL_TEN):
            self.assertIs(is_up(((0, 0),), code), True)
            self.assertIs(is_up(((3, 1), (0, 0)), code), True)

    def test_one_row(self):
        for row, pattern in rows_of(3):
            for code in range(8):
                self.assertIs(is_up((row,), code), fits_pattern(pattern, code))

    def test_some_row_is_enough(self):
        gate = ((3, 1), (6, 4), (7, 7))
        self.assertEqual([code for code in range(8) if is_up(gate, code)], [1, 4, 5, 7])
        self.assertEqual([code for code in range(8) if is_up(tuple(reversed(gate)), code)], [1, 4, 5, 7])

    def test_many_rows(self):
        codes = [code for code in range(1024) if code * 7 % 5 < 2][:400]
        gate = tuple((ALL_TEN, code) for code in codes)
        self.assertEqual(len(gate), 400)
        self.assertEqual([code for code in range(1024) if is_up(gate, code)], codes)

    def test_drawn(self):
        draw = Draw(5)
        seen = {True: 0, False: 0}
        for case in range(300):
            rows = []
            for row in range(draw.below(6)):
                care = draw.below(1024) & draw.below(1024)
                rows.append((care, care & draw.below(1024)))
            for case in range(20):
                code = draw.below(1024)
                told = is_up(tuple(rows), code)
                self.assertIs(told, up_by_words(rows, code))
                seen[told] += 1
        self.assertGreater(min(seen.values()), 500)


if __name__ == "__main__":
    unittest.main()

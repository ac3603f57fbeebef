"""Graphs for the tests, and graphs drawn by a fixed rule."""

# One wire follows another: a up, b up, a down, b down, round and round.
FOLLOW = (
    (("a", "given"), ("b", "made")),
    (
        (0, True, (0,), (1,)),
        (1, True, (1,), (2,)),
        (0, False, (2,), (3,)),
        (1, False, (3,), (0,)),
    ),
    1,
    0,
)
FOLLOW_TEXT = (
    "given a\nmade b\nup a : 0 -> 1\nup b : 1 -> 2\ndown a : 2 -> 3\ndown b : 3 -> 0\nstart 0 :"
)

# Two given wires rise in any order, then the made one; then they fall, then it falls.
JOIN = (
    (("x", "given"), ("y", "given"), ("out", "made")),
    (
        (0, True, (0,), (2,)),
        (1, True, (1,), (3,)),
        (2, True, (2, 3), (4, 5)),
        (0, False, (4,), (6,)),
        (1, False, (5,), (7,)),
        (2, False, (6, 7), (0, 1)),
    ),
    3,
    0,
)
JOIN_STANDS = [
    (3, 0, None, None),
    (6, 1, 0, 0),
    (9, 2, 0, 1),
    (12, 3, 1, 1),
    (48, 7, 3, 2),
    (96, 6, 4, 3),
    (144, 5, 4, 4),
    (192, 4, 5, 4),
]

TEN_NAMES = ("a", "bb", "ccc", "dddd", "eeeee", "ffffff", "ggggggg", "hhhhhhhh", "z", "y")


def full_graph():
    """Ten wires, 24 steps; the last wire has no step."""
    wires = tuple((name, "made" if n % 3 else "given") for n, name in enumerate(TEN_NAMES))
    steps = tuple(
        (k * 5 % 9, k % 2 == 0, tuple(sorted({k, 63 - k})), tuple(sorted({k + 1, 40, 63})))
        for k in range(24)
    )
    return (wires, steps, 1 | 1 << 63, 1 | 1 << 9)


class Draw:
    """Numbers by a fixed rule, so that each run draws the same graphs."""

    def __init__(self, seed):
        self.state = seed * 7919 + 12345

    def below(self, many):
        self.state = (self.state * 6364136223846793005 + 1442695040888963407) % 2**64
        return (self.state >> 33) % many

    def some(self, many, least, highest):
        """A rising tuple of at least `least` numbers below `many`, at most `highest`."""
        size = least + self.below(highest - least + 1)
        chosen = set()
        while len(chosen) < size:
            chosen.add(self.below(many))
        return tuple(sorted(chosen))

    def graph(self, spots=6):
        wires = tuple(
            (name, ("given", "made")[self.below(2)])
            for name in TEN_NAMES[: 1 + self.below(4)]
        )
        steps = tuple(
            (self.below(len(wires)), self.below(2) == 1, self.some(spots, 1, 2), self.some(spots, 1, 2))
            for step in range(1 + self.below(8))
        )
        marks = sum(1 << spot for spot in self.some(spots, 0, 3))
        return (wires, steps, marks, self.below(1 << len(wires)))

    def rings(self):
        """Two to four wires that rise and fall in turn, with spots that let one step wait for another."""
        many = 2 + self.below(3)
        sides = []
        for wire in range(many):
            sides.append((wire, True, {2 * wire}, {2 * wire + 1}))
            sides.append((wire, False, {2 * wire + 1}, {2 * wire}))
        marks = sum(1 << 2 * wire for wire in range(many))
        for spot in range(2 * many, 2 * many + 2 + 2 * self.below(3), 2):
            one, other = sides[self.below(len(sides))], sides[self.below(len(sides))]
            one[2].add(spot)
            other[3].add(spot)
            marks |= 1 << spot
            # Mostly a second spot goes the other way, which keeps the first from being filled twice.
            if self.below(6):
                one[3].add(spot + 1)
                other[2].add(spot + 1)
        wires = tuple((name, ("given", "made")[self.below(2)]) for name in TEN_NAMES[:many])
        steps = tuple((wire, up, tuple(sorted(takes)), tuple(sorted(fills))) for wire, up, takes, fills in sides)
        return (wires, steps, marks, 0)

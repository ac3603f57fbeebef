"""Graphs for the tests, graphs drawn by a fixed rule, and what the document says of them.

The last is told over sets of spots and lists of levels, apart from the program.
"""

from itertools import combinations, permutations

from calmwires.errors import Broken, CalledOff, CalmError, Clash, Crowded, NoMove, NoPlace, TooMany
from calmwires.gates import found as net_found
from calmwires.plays import apart
from calmwires.texts import read

# One wire follows another: a up, b up, a down, b down, round and round.
FOLLOW = (
    (("a", "given"), ("b", "made")),
    (
        (0, True, (0,), (1,)),
        (1, True, (1,), (2,)),
        (0, False, (2,), (3,)),
        (1, False, (3,), (0,)),
    ),
    1,
    0,
)
FOLLOW_TEXT = (
    "given a\nmade b\nup a : 0 -> 1\nup b : 1 -> 2\ndown a : 2 -> 3\ndown b : 3 -> 0\nstart 0 :"
)

# Two given wires rise in any order, then the made one; then they fall, then it falls.
JOIN = (
    (("x", "given"), ("y", "given"), ("out", "made")),
    (
        (0, True, (0,), (2,)),
        (1, True, (1,), (3,)),
        (2, True, (2, 3), (4, 5)),
        (0, False, (4,), (6,)),
        (1, False, (5,), (7,)),
        (2, False, (6, 7), (0, 1)),
    ),
    3,
    0,
)
JOIN_STANDS = [
    (3, 0, None, None),
    (6, 1, 0, 0),
    (9, 2, 0, 1),
    (12, 3, 1, 1),
    (48, 7, 3, 2),
    (96, 6, 4, 3),
    (144, 5, 4, 4),
    (192, 4, 5, 4),
]

# The world chooses between a and b; the made wire answers either, by steps of its own.
CHOICE = read(
    "given a\ngiven b\nmade c\n"
    "up a : 0 -> 1\nup b : 0 -> 2\nup c : 1 -> 3\nup c : 2 -> 4\n"
    "down a : 3 -> 5\ndown b : 4 -> 6\ndown c : 5 -> 0\ndown c : 6 -> 0\nstart 0 :"
)

# Two made wires look at a's tokens and give them back, as a does with theirs.
GIVE_BACK = read(
    "given a\nmade c\nmade d\n"
    "up a : 0 4 6 -> 1 4 6\nup c : 1 4 -> 1 5\nup d : 1 6 -> 1 7\n"
    "down a : 1 5 7 -> 0 5 7\ndown c : 0 5 -> 0 4\ndown d : 0 7 -> 0 6\nstart 0 4 6 :"
)

# The made wire moves at each second fall of the given one: it clashes when both are down and when it alone is up.
COUNT = read(
    "given a\nmade b\n"
    "up a : 0 -> 1\ndown a : 1 -> 2\nup b : 2 -> 3\nup a : 3 -> 4\ndown a : 4 -> 5\ndown b : 5 -> 0\nstart 0 :"
)

# Wire c looks at a's tokens, but a doesn't wait for it: each move of c is called off by one of a.
EARLY = read(
    "given a\ngiven c\n"
    "up a : 0 -> 1\ndown a : 1 -> 0\nup c : 1 4 -> 1 5\ndown c : 0 5 -> 0 4\nstart 0 4 :"
)

# Both wires are made; with a up alone, b wants to rise once and not the other time. A wire put in helps.
NEST = read("made a\nmade b\nup b : 0 -> 1\ndown b : 1 -> 2\ndown a : 2 -> 3\nup a : 3 -> 0\nstart 0 : a")

# A made wire without steps, beside one that goes up and down by itself.
LONE = read("made n\ngiven a\nup a : 0 -> 1\ndown a : 1 -> 0\nstart 0 :")

TEN_NAMES = ("a", "bb", "ccc", "dddd", "eeeee", "ffffff", "ggggggg", "hhhhhhhh", "z", "y")


def full_graph():
    """Ten wires, 24 steps; the last wire has no step."""
    wires = tuple((name, "made" if n % 3 else "given") for n, name in enumerate(TEN_NAMES))
    steps = tuple(
        (k * 5 % 9, k % 2 == 0, tuple(sorted({k, 63 - k})), tuple(sorted({k + 1, 40, 63})))
        for k in range(24)
    )
    return (wires, steps, 1 | 1 << 63, 1 | 1 << 9)


class Draw:
    """Numbers by a fixed rule, so that each run draws the same graphs."""

    def __init__(self, seed):
        self.state = seed * 7919 + 12345

    def below(self, many):
        self.state = (self.state * 6364136223846793005 + 1442695040888963407) % 2**64
        return (self.state >> 33) % many

    def some(self, many, least, highest):
        """A rising tuple of at least `least` numbers below `many`, at most `highest`."""
        size = least + self.below(highest - least + 1)
        chosen = set()
        while len(chosen) < size:
            chosen.add(self.below(many))
        return tuple(sorted(chosen))

    def graph(self, spots=6):
        wires = tuple(
            (name, ("given", "made")[self.below(2)])
            for name in TEN_NAMES[: 1 + self.below(4)]
        )
        steps = tuple(
            (self.below(len(wires)), self.below(2) == 1, self.some(spots, 1, 2), self.some(spots, 1, 2))
            for step in range(1 + self.below(8))
        )
        marks = sum(1 << spot for spot in self.some(spots, 0, 3))
        return (wires, steps, marks, self.below(1 << len(wires)))

    def rings(self):
        """Two to four wires that rise and fall in turn, with spots that let one step wait for another."""
        many = 2 + self.below(3)
        sides = []
        for wire in range(many):
            sides.append((wire, True, {2 * wire}, {2 * wire + 1}))
            sides.append((wire, False, {2 * wire + 1}, {2 * wire}))
        marks = sum(1 << 2 * wire for wire in range(many))
        for spot in range(2 * many, 2 * many + 2 + 2 * self.below(3), 2):
            one, other = sides[self.below(len(sides))], sides[self.below(len(sides))]
            one[2].add(spot)
            other[3].add(spot)
            marks |= 1 << spot
            # Mostly a second spot goes the other way, which keeps the first from being filled twice.
            if self.below(6):
                one[3].add(spot + 1)
                other[2].add(spot + 1)
        wires = tuple((name, ("given", "made")[self.below(2)]) for name in TEN_NAMES[:many])
        steps = tuple((wire, up, tuple(sorted(takes)), tuple(sorted(fills))) for wire, up, takes, fills in sides)
        return (wires, steps, marks, 0)

    def cycle(self, most_steps=8):
        """Four wires, some of them rising and falling one behind the other, round and round; the others have no steps."""
        wires = []
        while len(wires) < 2 or (2 * len(wires) < most_steps and self.below(3)):
            wires.append(self.below(4))
        code, steps = self.below(16), []
        turns, levels = self.shuffled(wires + wires), code
        for k, wire in enumerate(turns):
            levels ^= 1 << wire
            steps.append((wire, levels >> wire & 1 == 1, (k,), ((k + 1) % len(turns),)))
        kinds = [("made", "made", "given")[self.below(3)] for wire in range(4)]
        return self.renumbered(kinds, steps, 1, code)

    def row(self, graph, code, most_care=10):
        """A row that fits a code."""
        care = sum(1 << wire for wire in self.some(len(graph[0]), 0, min(most_care, len(graph[0]))))
        return (care, code & care)

    def net(self, graph, most_gates=4, most_rows=3):
        """Gates without any plan: up to `most_gates` for a rise, and for a fall, and up to 40 in all."""
        made = [wire for wire, (name, kind) in enumerate(graph[0]) if kind == "made"]
        parts = []
        for wire in made:
            sides = []
            for side in range(2):
                many = self.below(min(most_gates, 20 // len(made)) + 1)
                sides.append(tuple(
                    tuple(self.row(graph, self.below(1 << len(graph[0]))) for row in range(self.below(most_rows + 1)))
                    for gate in range(many)
                ))
            parts.append((wire, *sides))
        return tuple(parts)

    def bent(self, graph, net):
        """A net with one gate of it put in twice, taken out, or with other rows."""
        parts = [[wire, list(rises), list(falls)] for wire, rises, falls in net]
        part = parts[self.below(len(parts))]
        gates = part[1 + self.below(2)]
        chosen = gates[self.below(len(gates))] if gates else ()
        row = self.row(graph, self.below(1 << len(graph[0])))
        how = self.below(5)
        if how == 0 or not gates:
            gates.append(chosen + (row,))
        elif how == 1:
            gates.remove(chosen)
        elif how == 2:
            gates[gates.index(chosen)] = chosen + (row,)
        elif how == 3:
            gates[gates.index(chosen)] = chosen[1:]
        else:
            gates[gates.index(chosen)] = tuple(self.row(graph, level, 2) for care, level in chosen)
        return tuple((wire, tuple(rises), tuple(falls)) for wire, rises, falls in parts)

    def shuffled(self, some):
        left, drawn = list(some), []
        while left:
            drawn.append(left.pop(self.below(len(left))))
        return drawn

    def quilt(self, patches, most=400):
        """A graph of patches that go beside one another, as many as the bounds and most let, all shuffled."""
        wires, steps, marks, code, spots, many = [], [], 0, 0, 0, 1
        for patch in self.shuffled(patches):
            many_here = len(stands_by_ways(patch, 400))
            if len(wires) + len(patch[0]) > 10 or len(steps) + len(patch[1]) > 24 or many * many_here > most:
                continue
            for wire, up, takes, fills in patch[1]:
                steps.append((wire + len(wires), up, [p + spots for p in takes], [p + spots for p in fills]))
            here = self.walked(patch)
            marks, code = marks | here[0] << spots, code | here[1] << len(wires)
            wires += [kind for name, kind in patch[0]]
            spots, many = spots + 1 + max(max(takes + fills) for wire, up, takes, fills in patch[1]), many * many_here
        return self.renumbered(wires, steps, marks, code)

    def recast(self, graph):
        """The same graph, each wire given or made anew."""
        return (tuple((name, ("given", "made")[self.below(2)]) for name, kind in graph[0]),) + graph[1:]

    def walked(self, graph):
        """A stand that some steps lead to from the beginning."""
        here = tokens_of(graph, graph[2:])
        for step in range(self.below(12)):
            ahead = [step_by_tokens(graph, here[0], here[1], k) for k in range(len(graph[1]))]
            ahead = [stand for stand in ahead if stand is not None]
            here = ahead[self.below(len(ahead))] if ahead else here
        return numbers_of(here)

    def renumbered(self, kinds, steps, marks, code):
        wires = self.shuffled(range(len(kinds)))
        spots = self.shuffled(range(64))
        new_steps = tuple(
            (wires.index(wire), up, tuple(sorted(spots[p] for p in takes)), tuple(sorted(spots[p] for p in fills)))
            for wire, up, takes, fills in self.shuffled(steps)
        )
        return (
            tuple((name, kinds[wire]) for name, wire in zip(self.shuffled(TEN_NAMES), wires)),
            new_steps,
            sum(1 << spots[p] for p in range(64) if marks >> p & 1),
            sum(1 << place for place, wire in enumerate(wires) if code >> wire & 1),
        )


def ring(kinds):
    """Wires that rise one behind the other, then fall so; each of these steps waits for the one ahead."""
    many = len(kinds)
    wires = tuple((TEN_NAMES[wire], kind) for wire, kind in enumerate(kinds))
    steps = tuple((k % many, k < many, (k,), ((k + 1) % (2 * many),)) for k in range(2 * many))
    return (wires, steps, 1, 0)


# All sound and without a clash.
CALM_PATCHES = [FOLLOW, FOLLOW, FOLLOW, JOIN, CHOICE, GIVE_BACK, LONE, ring(("made",)), ring(("made", "made", "given"))]

# With drawn kinds, some of these are sound, some clash and in some a step is called off.
PATCHES = CALM_PATCHES + [EARLY, COUNT, COUNT]


def mixed(many, most=40):
    """Drawn graphs: some without any plan, some rings, some quilts with kinds drawn anew."""
    return (
        [Draw(seed).graph() for seed in range(many)]
        + [Draw(seed).rings() for seed in range(many)]
        + [Draw(seed).recast(Draw(seed).quilt(PATCHES, most)) for seed in range(many)]
    )


def asked(ask, *arguments):
    """The answer, or the refusal's class with what it tells."""
    try:
        return ask(*arguments)
    except (TooMany, NoMove, NoPlace) as error:
        return (type(error), None)
    except CalledOff as error:
        return (CalledOff, (error.way, error.lost, error.by))
    except Clash as error:
        return (Clash, (error.one, error.other, error.wire))
    except CalmError as error:
        return (type(error), error.way)


def step_by_tokens(graph, tokens, levels, step):
    """What [7] says of one step: None, an error's class, or what is behind."""
    wire, up, takes, fills = graph[1][step]
    if not set(takes) <= tokens:
        return None
    if levels[wire] == up:
        return Broken
    left = tokens - set(takes)
    if left & set(fills):
        return Crowded
    return (left | set(fills), levels[:wire] + [up] + levels[wire + 1:])


def numbers_of(stand):
    """A stand of tokens and levels as the program has it."""
    return (sum(1 << p for p in stand[0]), sum(1 << wire for wire, up in enumerate(stand[1]) if up))


def tokens_of(graph, stand):
    """A stand of the program as tokens and levels."""
    figures = reversed(bin(stand[0])[2:])
    return ({p for p, one in enumerate(figures) if one == "1"}, [bool(stand[1] >> w & 1) for w in range(len(graph[0]))])


def stands_by_ways(graph, most):
    """What [8] says: the list, or the error's class and its way; each stand is come to by its way from the beginning."""
    listed, come, seen = [(graph[2], graph[3], None, None)], [(tokens_of(graph, graph[2:]), [])], {graph[2:]}
    for n, ((tokens, levels), steps) in enumerate(come):
        for k in range(len(graph[1])):
            after = step_by_tokens(graph, tokens, levels, k)
            if after in (Broken, Crowded):
                return (after, steps + [k])
            if after is None or numbers_of(after) in seen:
                continue
            if len(listed) == most:
                return (TooMany, None)
            seen.add(numbers_of(after))
            listed.append(numbers_of(after) + (n, k))
            come.append((after, steps + [k]))
    return listed


def way_by_words(found, n):
    return [] if n == 0 else way_by_words(found, found[n][2]) + [found[n][3]]


def called_by_words(graph, stand, wire, up):
    """What [10] says: whether a wire is called up, or down."""
    return any(step[:2] == (wire, up) and all(stand[0] >> p & 1 for p in step[2]) for step in graph[1])


def wants_by_words(graph, stand, wire):
    if called_by_words(graph, stand, wire, True):
        return 1
    return -1 if called_by_words(graph, stand, wire, False) else 0


def off_by_words(graph, stand, a, b):
    """What [11] says of two steps that can be done, b not refused."""
    behind = step_by_tokens(graph, *tokens_of(graph, stand), b)
    return not set(graph[1][a][2]) <= behind[0]


def sound_by_words(graph, most):
    """What [11] says: the list, or the error's class and what it tells."""
    found = stands_by_ways(graph, most)
    if isinstance(found, tuple):
        return found
    for n, stand in enumerate(found):
        tokens = tokens_of(graph, stand[:2])[0]
        here = [k for k, step in enumerate(graph[1]) if set(step[2]) <= tokens]
        pairs = [(b, a) for b in here for a in here if a != b and off_by_words(graph, stand[:2], a, b)]
        pairs = [pair for pair in pairs if "made" in [graph[0][graph[1][k][0]][1] for k in pair]]
        if pairs:
            b, a = min(pairs)
            return (CalledOff, (way_by_words(found, n), a, b))
    return found


def clashes_by_words(graph, found):
    """What [13] says of the stands of a sound graph."""
    wires = [wire for wire, (name, kind) in enumerate(graph[0]) if kind == "made"]
    wanted = {stand[:2]: [wants_by_words(graph, stand[:2], wire) for wire in wires] for stand in found}
    return sorted(
        (n, m, wire)
        for (n, one), (m, other) in combinations(enumerate(found), 2)
        if one[1] == other[1]
        for place, wire in enumerate(wires)
        if wanted[one[:2]][place] != wanted[other[:2]][place]
    )


def up_by_words(gate, code):
    """What [15] says of a gate, wire by wire."""
    return any(
        all(code >> wire & 1 == level >> wire & 1 for wire in range(10) if care >> wire & 1) for care, level in gate
    )


def good_by_words(graph, found, wire, gate, up):
    """What [17] says of a rise gate, or (not up) of a fall gate: which of a, b and c are broken."""
    broken, seen = set(), {}
    for stand in found:
        there = tokens_of(graph, stand[:2])[1][wire] == up
        called, back = (called_by_words(graph, stand[:2], wire, way) for way in (up, not up))
        high = up_by_words(gate, stand[1])
        if called and not high:
            broken.add("a")
        if high and (not there and not called or back):
            broken.add("b")
        seen[stand[:2]] = (there and not back, high)
    for stand in [stand for stand in seen if seen[stand] == (True, False)]:
        tokens, levels = tokens_of(graph, stand)
        for after in [step_by_tokens(graph, tokens, levels, k) for k in range(len(graph[1]))]:
            if after is not None and seen[numbers_of(after)] == (True, True):
                broken.add("c")
    return broken


class WordPlay:
    """What [19] to [21] say, over a set of spots, a list of levels and a list of the gates' levels."""

    def __init__(self, graph, net):
        self.graph, self.net = graph, net
        self.tokens, self.wires = tokens_of(graph, graph[2:])
        self.gates = [gate for wire, rises, falls in net for gate in rises + falls]
        self.levels = [self.due(gate) for gate in self.gates]

    def stand(self):
        return numbers_of((self.tokens, self.wires))

    def pose(self):
        return (self.stand(), tuple(self.levels))

    def due(self, gate):
        return up_by_words(gate, self.stand()[1])

    def let(self, kind):
        """The steps of given or of made wires that can be done."""
        return [
            k for k, (wire, up, takes, fills) in enumerate(self.graph[1])
            if self.graph[0][wire][1] == kind and set(takes) <= self.tokens
        ]

    def moves(self):
        steps = [("step", k) for k in self.let("given")]
        gates = [("gate", g) for g, gate in enumerate(self.gates) if self.due(gate) != self.levels[g]]
        wires, levels = [], list(self.levels)
        for wire, rises, falls in self.net:
            rising, levels = any(levels[:len(rises)]), levels[len(rises):]
            falling, levels = any(levels[:len(falls)]), levels[len(falls):]
            if rising != falling and self.wires[wire] == falling:
                wires.append(("wire", wire))
        return steps + gates + wires

    def go(self, move):
        ahead = self.moves()
        if move not in ahead:
            raise NoMove()
        kind, number = move
        if kind == "gate":
            self.levels[number] = not self.levels[number]
        else:
            done = [number] if kind == "step" else [
                k for k in self.let("made") if self.graph[1][k][:2] == (number, not self.wires[number])
            ]
            if not done:
                return ("astray", number)
            self.tokens, self.wires = step_by_tokens(self.graph, self.tokens, self.wires, done[0])
        gone = [called for called in ahead if called[0] != "step" and called != move and called not in self.moves()]
        return ("vanished", gone) if gone else None

    def twin(self):
        other = WordPlay(self.graph, self.net)
        other.tokens, other.wires, other.levels = set(self.tokens), list(self.wires), list(self.levels)
        return other


def plays_by_words(graph, net, most):
    """All plays by all moves, gone on with behind what vanished, too; and the kinds of what is not calm.

    Where there are more than most plays: None, and the kinds met so far.
    """
    first = WordPlay(graph, net)
    come, seen, kinds = [first], {first.pose()}, set()
    for play in come:
        moves = play.moves()
        if not moves and play.let("made"):
            kinds.add("stuck")
        for move in moves:
            after = play.twin()
            told = after.go(move)
            if told:
                kinds.add(told[0])
            if after.pose() not in seen:
                if len(come) == most:
                    return (None, kinds)
                seen.add(after.pose())
                come.append(after)
    return (len(come), kinds)


def put_by_words(graph, name, first, second):
    """What [25] says, where nothing is refused."""
    wires, steps, marks, code = graph
    taken = {p for step in steps for p in step[2] + step[3]} | {p for p in range(64) if marks >> p & 1}
    one, other = sorted(set(range(64)) - taken)[:2]
    new = [list(step) for step in steps] + [
        [len(wires), True, steps[first][2], (one,)], [len(wires), False, steps[second][2], (other,)],
    ]
    new[first][2], new[second][2] = (one,), (other,)
    return (wires + ((name, "made"),), tuple(tuple(step) for step in new), marks, code)


def calm_by_words(graph, most):
    """Whether a graph is sound within most stands and has no clash."""
    found = sound_by_words(graph, most)
    return isinstance(found, list) and clashes_by_words(graph, found) == []


def parted_by_words(graph, name, most):
    """What [26] says of a sound graph with room for the wire."""
    made = [k for k, step in enumerate(graph[1]) if graph[0][step[0]][1] == "made"]
    for first, second in permutations(made, 2):
        new = put_by_words(graph, name, first, second)
        if calm_by_words(new, most):
            return (first, second, new)
    return None


def sound_graphs(many, most=40):
    """Drawn graphs that are sound, some with clashes, of one to ten wires."""
    by_hand = [CHOICE, GIVE_BACK, LONE, COUNT, NEST, ring(("made",)), ring(("made", "given") * 5)]
    drawn = mixed(many, most) + [Draw(seed).cycle() for seed in range(many)]
    return [graph for graph in by_hand + drawn if isinstance(sound_by_words(graph, 400), list)]


def calm_graphs(many, most=400):
    """Graphs for which a net is found: of one to ten wires, with a choice, tokens given back, wires without steps."""
    rings = [ring(("made",) * wires) for wires in range(1, 11)]
    quilts = [Draw(seed).quilt(CALM_PATCHES * 2, most) for seed in range(many)]
    return [FOLLOW, JOIN, CHOICE, GIVE_BACK, LONE] + rings + quilts


def nets_for(draw, graph):
    """Nets for a graph: two without a plan; if one is found, that one, bent once and twice, and taken apart."""
    nets = [draw.net(graph), draw.net(graph, 2, 2)]
    net = asked(net_found, graph, 400)
    if net and isinstance(net[0], tuple):
        nets += [net, draw.bent(graph, net), draw.bent(graph, draw.bent(graph, net)), apart(net)]
    return nets

"""Machines that are made from patterns (points 42 to 45, 52 and 53)."""

from wirewatch.errors import UnknownWire
from wirewatch.machines import check_names, found_machine, joined_machine
from wirewatch.patterns import check_pattern, names_of, one_bits
from wirewatch.walks import explore

PAIRS = ("pairs", 200)
STATES = ("states", 16)

ANY_TICK = ("see", ())


def marked_set(machine):
    """The set of the states with the mark 1. Sets of states are kept as integers."""
    return sum([mark << state for state, mark in enumerate(machine[2])])


def after_set(machine, held, letter):
    """The set of the states that follow those of a set."""
    found = 0
    for state in one_bits(held):
        found = found | (1 << machine[1][state][letter])
    return found


def repeat_follow(part):
    """The function that leads from one set to the next one in the repeat of the machine."""
    marked = marked_set(part)

    def follow(held, letter):
        after = after_set(part, held, letter)
        return after | 1 if after & marked else after

    return follow


def pair_follow(kind, first, second):
    """The function that leads from one pair to the next one for `then` or `fuse`."""
    def follow(pair, letter):
        state = first[1][pair[0]][letter]
        held = after_set(second, pair[1], letter)
        if first[2][state] == 0:
            return state, held
        begun = 0 if kind == "then" else second[1][0][letter]
        return state, held | (1 << begun)

    return follow


class Maker:
    """Makes the least machines of nodes over the same wires."""

    def __init__(self, wires):
        self.wires = wires
        self.letters = 1 << len(wires)

    def found(self, first, follow, marked, walk_limit=None):
        """The least machine whose states are the keys that are reached, within the limits."""
        return found_machine(self.wires, first, follow, marked,
                             walk_limit=walk_limit, limit=STATES)

    def see(self, lits):
        """The machine of a `see` node."""
        places = [(self.wires.index(wire), bit) for wire, bit in lits]
        fits = [all([(letter >> place) & 1 == bit for place, bit in places])
                for letter in range(self.letters)]
        return self.found(
            "start",
            lambda key, letter: "seen" if key == "start" and fits[letter] else "lost",
            lambda key: key == "seen")

    def length(self, is_due):
        """The machine that accepts the rows for whose length, 0 or 1 for more, this is True."""
        return self.found(0, lambda key, letter: 1, is_due)

    def empty(self):
        """The machine of an `empty` node."""
        return self.length(lambda key: key == 0)

    def paired(self, kind, first, second):
        """The machine of a `then` or `fuse` node."""
        begun = 1 if kind == "then" and first[2][0] == 1 else 0
        marked = marked_set(second)
        return self.found(
            (0, begun), pair_follow(kind, first, second),
            lambda pair: pair[1] & marked != 0, PAIRS)

    def repeat(self, part):
        """The machine that accepts any number of rows of the part, one behind the other."""
        marked = marked_set(part)
        # The first set has state 0 only. The start, which is none of the sets, is -1.
        held, moves = explore(1, self.letters, repeat_follow(part), PAIRS)
        return self.found(
            -1,
            lambda key, letter: moves[max(key, 0)][letter],
            lambda key: key == -1 or held[key] & marked != 0)

    def times(self, part, low, high):
        """The machine of a `times` node."""
        made = self.empty()
        for _ in range(low):
            made = self.paired("then", made, part)
        if high is None:
            return self.paired("then", made, self.repeat(part))
        if high > low:
            at_most_one = joined_machine("or", self.empty(), part, STATES)
            for _ in range(high - low):
                made = self.paired("then", made, at_most_one)
        return made

    def negate(self, part):
        """The machine of a `not` node."""
        _, moves, marks = part
        return self.found(
            0,
            lambda state, letter: moves[state][letter],
            lambda state: marks[state] == 0)

    def within(self, part, most):
        """The machine of a `within` node."""
        _, moves, marks = part
        return self.found(
            (0, 0),
            lambda key, letter: (moves[key[0]][letter], min(key[1] + 1, most + 1)),
            lambda key: key[1] <= most and marks[key[0]] == 1)

    def make(self, node):
        """The machine of the node. Its parts are made first, each once."""
        kind = node[0]
        if kind == "see":
            return self.see(node[1])
        if kind == "empty":
            return self.empty()
        if kind == "never":
            return self.length(lambda key: False)
        first = self.make(node[1])
        if kind == "not":
            return self.negate(first)
        if kind == "times":
            return self.times(first, node[2], node[3])
        if kind == "within":
            return self.within(first, node[2])
        second = self.make(node[2])
        if kind in ("then", "fuse"):
            return self.paired(kind, first, second)
        return joined_machine("or" if kind == "or" else "and", first, second, STATES)


def chosen_wires(pattern, names):
    """The wires of the machine that is due, after the checks of the pattern and of the names."""
    check_pattern(pattern)
    if names is None:
        return names_of(pattern)
    check_names(names)
    for wire in names_of(pattern):
        if wire not in names:
            raise UnknownWire(wire)
    return names


def machine_of(pattern, *, names=None):
    """The machine of the pattern over these wires, or over its own ones."""
    return Maker(chosen_wires(pattern, names)).make(pattern)


def flag_pattern(pattern, from_start, sticky):
    """The pattern whose machine is the flag machine."""
    built = ("both", pattern, ("times", ANY_TICK, 1, None))
    if not from_start:
        built = ("then", ("times", ANY_TICK, 0, None), built)
    if sticky:
        built = ("then", built, ("times", ANY_TICK, 0, None))
    return built


def flag_machine(pattern, *, names=None, from_start=False, sticky=False):
    """The flag machine of the pattern over these wires, or over its own ones."""
    wires = chosen_wires(pattern, names)
    return Maker(wires).make(flag_pattern(pattern, from_start, sticky))

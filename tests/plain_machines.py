"""Points 49 to 53 in plain words, and machines for the tests."""

import itertools

SEE_A = ("see", (("a", 1),))
ANY = ("see", ())
EMPTY = ("empty",)
# It accepts the rows that end in 1.
LAST = (("a",), ((0, 1), (0, 1)), (0, 1))
# It accepts rows of the letters of two wires with an odd number of letters 3.
ODD = (("a", "b"), ((0, 0, 0, 1), (1, 1, 1, 0)), (0, 1))
# State 3 is not reached, 1 and 2 are alike; the rows that begin with 1.
LOOSE = (("a",), ((4, 1), (2, 1), (1, 2), (0, 3), (4, 4)), (0, 1, 1, 1, 0))
# Over no wire: rows of an odd length.
ODD_LENGTH = ((), ((1,), (0,)), (0, 1))


def letter_rows(count, length):
    """All letter rows of at most this length, in their order."""
    return [row for size in range(length + 1)
            for row in itertools.product(range(count), repeat=size)]


def plain_accepts(machine, letters):
    state = 0
    for letter in letters:
        state = machine[1][state][letter]
    return machine[2][state] == 1


def row_of(letter, count):
    return tuple(letter // 2 ** place % 2 for place in range(count))


def view_of(names, letters):
    return names, tuple(row_of(letter, len(names)) for letter in letters)


def numbered(start, letters, follow):
    """The keys in the order of point 51, and their moves."""
    keys, moves = [start], []
    for key in keys:
        moves.append([])
        for letter in range(letters):
            after = follow(key, letter)
            if after not in keys:
                keys.append(after)
            moves[-1].append(keys.index(after))
    return keys, moves


def plain_least(names, start, follow, marked):
    """Two keys are alike if no letter row tells them apart: pairs are struck out."""
    letters = 2 ** len(names)
    keys, moves = numbered(start, letters, follow)
    marks = [1 if marked(key) else 0 for key in keys]
    apart = {(one, other) for one in range(len(keys)) for other in range(len(keys))
             if marks[one] != marks[other]}
    before = {}
    for place, row in enumerate(moves):
        for letter, after in enumerate(row):
            before.setdefault((letter, after), []).append(place)
    left = list(apart)
    while left:
        one, other = left.pop()
        for letter in range(letters):
            for pair in itertools.product(before.get((letter, one), ()), before.get((letter, other), ())):
                if pair not in apart:
                    apart.add(pair)
                    left.append(pair)
    alike = [min(other for other in range(place + 1) if (place, other) not in apart)
             for place in range(len(keys))]
    found, least_moves = numbered(0, letters, lambda key, letter: alike[moves[key][letter]])
    return names, tuple(map(tuple, least_moves)), tuple(marks[key] for key in found)


def least_of(machine):
    names, moves, marks = machine
    return plain_least(names, 0, lambda state, letter: moves[state][letter], lambda state: marks[state])


class TooMany(Exception):
    """What is larger than its limit."""


class PlainMaker:
    """The machines of nodes by the words of point 52. Sets are frozensets."""

    def __init__(self, names, most=(200, 16)):
        self.names = names
        self.letters = 2 ** len(names)
        self.most_pairs, self.most_states = most
        self.counts = []

    def least(self, start, follow, marked, pairs=None):
        if pairs is not None:
            self.counts.append(len(pairs))
            if len(pairs) > self.most_pairs:
                raise TooMany("pairs", 200)
        machine = plain_least(self.names, start, follow, marked)
        self.counts.append(-len(machine[2]))
        if len(machine[2]) > self.most_states:
            raise TooMany("states", 16)
        return machine

    def all_keys(self, start, follow):
        seen, left = {start}, [start]
        while left:
            key = left.pop()
            for letter in range(self.letters):
                after = follow(key, letter)
                if after not in seen:
                    seen.add(after)
                    left.append(after)
        return seen

    def make(self, node):
        return getattr(self, "make_" + node[0])(*node[1:])

    def make_see(self, lits):
        def follow(key, letter):
            row = row_of(letter, len(self.names))
            fits = all(row[self.names.index(wire)] == bit for wire, bit in lits)
            return "after" if key == "before" and fits else "never"
        return self.least("before", follow, lambda key: key == "after")

    def make_empty(self):
        return self.least(0, lambda key, letter: 1, lambda key: key == 0)

    def make_never(self):
        return self.least(0, lambda key, letter: 0, lambda key: False)

    def joined(self, kind, first, second):
        def follow(pair, letter):
            state, held = pair
            after = first[1][state][letter]
            new = {second[1][one][letter] for one in held}
            if first[2][after]:
                new.add(0 if kind == "then" else second[1][0][letter])
            return after, frozenset(new)
        start = (0, frozenset([0] if kind == "then" and first[2][0] else []))
        return self.least(start, follow, lambda pair: any(second[2][one] for one in pair[1]),
                          self.all_keys(start, follow))

    def make_then(self, p, q):
        first = self.make(p)
        return self.joined("then", first, self.make(q))

    def make_fuse(self, p, q):
        first = self.make(p)
        return self.joined("fuse", first, self.make(q))

    def product(self, first, second, choose):
        return self.least(
            (0, 0), lambda pair, letter: (first[1][pair[0]][letter], second[1][pair[1]][letter]),
            lambda pair: choose([first[2][pair[0]], second[2][pair[1]]]))

    def make_or(self, p, q):
        first = self.make(p)
        return self.product(first, self.make(q), any)

    def make_both(self, p, q):
        first = self.make(p)
        return self.product(first, self.make(q), all)

    def make_not(self, p):
        part = self.make(p)
        return self.least(0, lambda state, letter: part[1][state][letter], lambda state: not part[2][state])

    def make_within(self, p, most):
        part = self.make(p)
        return self.least(
            (0, 0), lambda key, letter: (part[1][key[0]][letter], min(key[1] + 1, most + 1)),
            lambda key: key[1] <= most and part[2][key[0]])

    def repeat(self, part):
        def after(held, letter):
            new = {part[1][state][letter] for state in held}
            if any(part[2][state] for state in new):
                new.add(0)
            return frozenset(new)
        first = frozenset([0])
        return self.least(
            "start", lambda key, letter: after(first if key == "start" else key, letter),
            lambda key: key == "start" or any(part[2][state] for state in key),
            self.all_keys(first, after))

    def make_times(self, p, low, high):
        part = self.make(p)
        made = self.make_empty()
        for _ in range(low):
            made = self.joined("then", made, part)
        if high is None:
            return self.joined("then", made, self.repeat(part))
        if high > low:
            maybe = self.product(self.make_empty(), part, any)
            for _ in range(high - low):
                made = self.joined("then", made, maybe)
        return made


def flag_tree(pattern, from_start=False, sticky=False):
    """The pattern that point 53 builds."""
    tree = ("both", pattern, ("times", ANY, 1, None))
    if not from_start:
        tree = ("then", ("times", ANY, 0, None), tree)
    return ("then", tree, ("times", ANY, 0, None)) if sticky else tree


def random_machine(source, names, states):
    letters = 2 ** len(names)
    moves = tuple(tuple(source.randrange(states) for _ in range(letters)) for _ in range(states))
    return names, moves, tuple(source.randrange(2) for _ in range(states))


def last_letters(count, names=("a",)):
    """The rows whose letter `count` from the end has its first bit 1: 2 ** count states."""
    states = 2 ** count
    letters = 2 ** len(names)
    moves = tuple(tuple((state * 2 + letter % 2) % states for letter in range(letters))
                  for state in range(states))
    return names, moves, tuple(state * 2 // states for state in range(states))


def cycle(states, names=("a",), marked=0):
    """Rows whose length is `marked` modulo the number of states."""
    letters = 2 ** len(names)
    moves = tuple(((state + 1) % states,) * letters for state in range(states))
    return names, moves, tuple(1 if state == marked else 0 for state in range(states))

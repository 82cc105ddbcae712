"""Points 57 to 62 in plain words, for small nets."""

from samples import plain_next, plain_values, rows_of

# A ring of three registers without an input, with one 1.
ROUND = ((), (), (("x", 1, "z"), ("y", 0, "x"), ("z", 0, "y")), ("x",))
# A state that is not reached: `t` is 1 only if it was.
STUCK = (("a",), (("g", "and", ("a", "t")),), (("r", 0, "a"), ("t", 0, "g")), ())


def first_of(net):
    return tuple(reg[1] for reg in net[2])


def row_key(row):
    return row[::-1]


def stimulus_key(stimulus):
    return len(stimulus), [row_key(row) for row in stimulus]


def all_states(net):
    return rows_of(len(net[2]))


def nexts(net, state):
    return [plain_next(net, row, state) for row in rows_of(len(net[0]))]


def plain_levels(net):
    levels, seen = [[first_of(net)]], [first_of(net)]
    while True:
        level = sorted({after for state in levels[-1] for after in nexts(net, state)} - set(seen), key=row_key)
        if not level:
            return tuple(tuple(level) for level in levels)
        levels.append(level)
        seen += level


def least_paths(net):
    """The least path to each reached state: all shortest ones are kept until the least is known."""
    rows = rows_of(len(net[0]))
    found = {first_of(net): ()}
    level = dict(found)
    while level:
        longer = {}
        for state, path in level.items():
            for row in rows:
                after = plain_next(net, row, state)
                if after not in found:
                    longer.setdefault(after, []).append(path + (row,))
        level = {state: min(paths, key=stimulus_key) for state, paths in longer.items()}
        found.update(level)
    return found


def fails_at(net, wire, state):
    return any(plain_values(net, row, state)[wire] == 1 for row in rows_of(len(net[0])))

"""Patterns, and their plain reading over views (points 36 and 42 to 45)."""

from wirewatch.errors import BadIndex, BadPattern, TooLarge, UnknownWire
from wirewatch.nets import is_wire
from wirewatch.rows import check_rows

MOST_NODES = 16
MOST_NAMES = 3
MOST_COUNT = 9
MOST_SEEN_TICKS = 20

# For each kind of node the number of its parts, which stand behind the kind.
PART_COUNTS = {"see": 0, "empty": 0, "never": 0, "then": 2, "fuse": 2, "or": 2, "both": 2,
               "not": 1, "times": 1, "within": 1}


def parts_of(node):
    """The parts of a node, none for a node of an unknown kind."""
    return node[1:1 + PART_COUNTS.get(node[0], 0)]


def nodes_of(pattern):
    """A list of all nodes, each before its parts, `p` with everything in it before `q`."""
    found = []
    left = [pattern]
    while left:
        node = left.pop()
        found.append(node)
        left.extend(parts_of(node)[::-1])
    return found


def lits_code(lits):
    """The code of the first fault of the pairs of a `see` node, or None."""
    seen = set()
    for wire, bit in lits:
        if not is_wire(wire):
            return "wire"
        if bit not in (0, 1):
            return "bit"
        if wire in seen:
            return "twice"
        seen.add(wire)
    return None


def are_counts(low, high):
    """True if these can be the counts of a `times` node, otherwise False."""
    return 0 <= low <= MOST_COUNT and (high is None or low <= high <= MOST_COUNT)


def node_code(node):
    """The code of the first fault of the node itself, or None."""
    kind = node[0]
    if kind not in PART_COUNTS:
        return "kind"
    if kind == "see":
        return lits_code(node[1])
    if kind == "times" and not are_counts(node[2], node[3]):
        return "count"
    if kind == "within" and not 0 <= node[2] <= MOST_COUNT:
        return "count"
    return None


def pattern_fault(pattern):
    """The first fault of the pattern, or None."""
    for node in nodes_of(pattern):
        code = node_code(node)
        if code is not None:
            return code, node
    return None


def sound_nodes(pattern):
    """A list of all nodes. Raises BadPattern, but does not check the size."""
    fault = pattern_fault(pattern)
    if fault is not None:
        code, node = fault
        raise BadPattern(code, node)
    return nodes_of(pattern)


def node_count(pattern):
    """The number of nodes."""
    return len(sound_nodes(pattern))


def names_of(pattern):
    """The distinct wires of all `see` nodes, ascending."""
    found = {}
    for node in sound_nodes(pattern):
        if node[0] == "see":
            for wire, _ in node[1]:
                found[wire] = True
    return tuple(sorted(found))


def check_pattern(pattern):
    """Raises BadPattern with the first fault, then TooLarge for the size."""
    if node_count(pattern) > MOST_NODES:
        raise TooLarge("nodes", MOST_NODES)
    if len(names_of(pattern)) > MOST_NAMES:
        raise TooLarge("names", MOST_NAMES)


def check_view(view):
    """Raises BadRow for the first wrong row of the view."""
    names, rows = view
    check_rows(rows, len(names))


def check_reading(pattern, view):
    """Raises what is wrong with a pattern and a view that is read."""
    check_pattern(pattern)
    check_view(view)
    names, rows = view
    if len(rows) > MOST_SEEN_TICKS:
        raise TooLarge("ticks", MOST_SEEN_TICKS)
    for wire in names_of(pattern):
        if wire not in names:
            raise UnknownWire(wire)


# Below, stretches are kept as a list with one integer for each start: its bit
# `end` is 1 if the stretch `(start, end)` is among them.


def one_bits(word):
    """A list of the indexes of the bits that are 1."""
    return [at for at in range(word.bit_length()) if (word >> at) & 1 == 1]


def empty_ends(count):
    """The empty stretches, if there are `count` starts."""
    return [1 << start for start in range(count)]


def then_ends(first, second):
    """The stretches that consist of one of the first and one of the second ones."""
    found = []
    for ends in first:
        after = 0
        for middle in one_bits(ends):
            after = after | second[middle]
        found.append(after)
    return found


def fuse_ends(first, second):
    """The same, but the two stretches overlap in one tick, so neither of them is empty."""
    found = []
    for start, ends in enumerate(first):
        after = 0
        for end in one_bits(ends):
            if end > start:
                after = after | ((second[end - 1] >> end) << end)
        found.append(after)
    return found


def repeat_ends(part):
    """The stretches that consist of any number of these, also of none."""
    found = empty_ends(len(part))
    for start in reversed(range(len(part))):
        for end in one_bits(part[start]):
            found[start] = found[start] | found[end]
    return found


def times_ends(part, low, high):
    """The stretches that consist of `low` to `high` of these."""
    none = empty_ends(len(part))
    found = none
    for _ in range(low):
        found = then_ends(found, part)
    if high is None:
        return then_ends(found, repeat_ends(part))
    at_most_one = [left | right for left, right in zip(none, part)]
    for _ in range(high - low):
        found = then_ends(found, at_most_one)
    return found


class Reading:
    """The plain reading of nodes over one view."""

    def __init__(self, view):
        self.wires, self.rows = view

    def see_ends(self, lits):
        """The stretches of one tick at which the wires have these bits."""
        places = [(self.wires.index(wire), bit) for wire, bit in lits]
        found = []
        for start, row in enumerate(self.rows):
            fits = all([row[place] == bit for place, bit in places])
            found.append(2 << start if fits else 0)
        return found + [0]

    def not_ends(self, part):
        """All other stretches."""
        past = 2 << len(self.rows)
        return [ends ^ (past - (1 << start)) for start, ends in enumerate(part)]

    def within_ends(self, part, most):
        """Those of the stretches that have at most `most` ticks."""
        return [ends & ((2 << (start + most)) - 1) for start, ends in enumerate(part)]

    def read(self, node):
        """The stretches of which the node holds."""
        kind = node[0]
        if kind == "see":
            return self.see_ends(node[1])
        if kind == "empty":
            return empty_ends(len(self.rows) + 1)
        if kind == "never":
            return [0 for _ in range(len(self.rows) + 1)]
        first = self.read(node[1])
        if kind == "not":
            return self.not_ends(first)
        if kind == "times":
            return times_ends(first, node[2], node[3])
        if kind == "within":
            return self.within_ends(first, node[2])
        second = self.read(node[2])
        if kind == "then":
            return then_ends(first, second)
        if kind == "fuse":
            return fuse_ends(first, second)
        if kind == "or":
            return [left | right for left, right in zip(first, second)]
        return [left & right for left, right in zip(first, second)]


def checked_ends(pattern, view):
    """The stretches of which the pattern holds, after the checks."""
    check_reading(pattern, view)
    return Reading(view).read(pattern)


def holds(pattern, view, start, end):
    """True if the pattern holds of the stretch, otherwise False."""
    ends = checked_ends(pattern, view)
    ticks = len(view[1])
    if not 0 <= start <= ticks:
        raise BadIndex(start)
    if not start <= end <= ticks:
        raise BadIndex(end)
    return (ends[start] >> end) & 1 == 1


def stretches(pattern, view):
    """All stretches of which the pattern holds, ascending."""
    found = []
    for start, ends in enumerate(checked_ends(pattern, view)):
        found.extend([(start, end) for end in one_bits(ends)])
    return tuple(found)


def flags(pattern, view, *, from_start=False, sticky=False):
    """The flags of the pattern, one for each tick."""
    ends = checked_ends(pattern, view)
    shown = 0
    for start in range(1 if from_start else len(ends)):
        # Stretches that end where they start have no last tick.
        shown = shown | ((ends[start] >> (start + 1)) << (start + 1))
    found = []
    for tick in range(len(view[1])):
        bit = (shown >> (tick + 1)) & 1
        found.append(1 if sticky and 1 in found else bit)
    return tuple(found)

"""Point 44 in plain words, and patterns for the tests."""

KINDS = ("see", "empty", "never", "then", "fuse", "or", "both", "not", "times", "within")
SEE_A = ("see", (("a", 1),))
NOT_A = ("see", (("a", 0),))
SEE_B = ("see", (("b", 1),))
ANY = ("see", ())
EMPTY = ("empty",)
NEVER = ("never",)


class Plain:
    """Whether patterns hold of the stretches of one view."""

    def __init__(self, view):
        self.names, self.rows = view
        self.known = {}

    def holds(self, node, start, end):
        key = (node, start, end)
        if key not in self.known:
            self.known[key] = getattr(self, "holds_" + node[0])(start, end, *node[1:])
        return self.known[key]

    def holds_see(self, start, end, lits):
        return end == start + 1 and all(
            self.rows[start][self.names.index(wire)] == bit for wire, bit in lits)

    def holds_empty(self, start, end):
        return start == end

    def holds_never(self, start, end):
        return False

    def holds_then(self, start, end, p, q):
        return any(self.holds(p, start, middle) and self.holds(q, middle, end)
                   for middle in range(start, end + 1))

    def holds_fuse(self, start, end, p, q):
        return any(self.holds(p, start, middle + 1) and self.holds(q, middle, end)
                   for middle in range(start, end))

    def holds_or(self, start, end, p, q):
        return self.holds(p, start, end) or self.holds(q, start, end)

    def holds_both(self, start, end, p, q):
        return self.holds(p, start, end) and self.holds(q, start, end)

    def holds_not(self, start, end, p):
        return not self.holds(p, start, end)

    def holds_times(self, start, end, p, low, high):
        # More than this many stretches need empty ones beyond `low`, which can be left out.
        most = low + len(self.rows) + 1 if high is None else high
        ends = {start}
        for number in range(most + 1):
            if number >= low and end in ends:
                return True
            ends = {after for middle in ends for after in range(middle, end + 1)
                    if self.holds(p, middle, after)}
        return False

    def holds_within(self, start, end, p, most):
        return end - start <= most and self.holds(p, start, end)

    def stretches(self, node):
        ticks = len(self.rows)
        return tuple((start, end) for start in range(ticks + 1) for end in range(start, ticks + 1)
                     if self.holds(node, start, end))

    def flags(self, node, from_start=False, sticky=False):
        found = []
        for tick in range(len(self.rows)):
            starts = [0] if from_start else range(tick + 1)
            bit = any(self.holds(node, start, tick + 1) for start in starts)
            found.append(1 if bit or (sticky and 1 in found) else 0)
        return tuple(found)


def random_pattern(source, size, wires=("a", "b")):
    """A pattern of this many nodes."""
    if size == 1:
        chosen = source.sample(wires, source.randrange(len(wires) + 1))
        see = ("see", tuple((wire, source.randrange(2)) for wire in chosen))
        return source.choice((see, see, see, see, ("empty",), ("never",)))
    kind = source.choice(("then", "then", "fuse", "or", "both", "not", "times", "within"))
    if kind in ("not", "times", "within") or size == 2:
        part = random_pattern(source, size - 1, wires)
        kind = kind if kind in ("not", "times", "within") else "times"
        if kind == "not":
            return ("not", part)
        if kind == "within":
            return ("within", part, source.randrange(10))
        low = source.choice((0, 0, 1, 2, 9))
        return ("times", part, low, source.choice((None, low, source.randrange(low, 10))))
    left = source.randrange(1, size - 1)
    return kind, random_pattern(source, left, wires), random_pattern(source, size - 1 - left, wires)


def chain_of(size, kind="not"):
    """A pattern of this many nodes, as deep as can be."""
    node = SEE_A
    for _ in range(size - 1):
        node = (kind, node)
    return node


def tree_of(size, wires=("a",)):
    """A pattern of this many nodes, an odd number, with these wires in turn."""
    node = ("see", ((wires[0], 1),))
    for at in range(1, (size + 1) // 2):
        node = ("or", node, ("see", ((wires[at % len(wires)], 1),)))
    return node

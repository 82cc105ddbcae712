"""Nets for the tests of several modules, and plain readings of them."""

import itertools

OPS = {
    "zero": lambda: 0,
    "one": lambda: 1,
    "buf": lambda a: a,
    "not": lambda a: 1 - a,
    "and": lambda a, b: min(a, b),
    "or": lambda a, b: max(a, b),
    "xor": lambda a, b: (a + b) % 2,
    "mux": lambda s, a, b: (a, b)[s],
}
COUNTS = {"zero": 0, "one": 0, "buf": 1, "not": 1, "and": 2, "or": 2, "xor": 2, "mux": 3}

EMPTY = ((), (), (), ())
FAULT = (("a",), (("x", "buf", ("q",)),), (("r", 0, "a"),), ())
RING = (("a",), (("x", "not", ("x",)),), (("r", 0, "a"),), ("x",))
# A net with a fault and a ring: the fault counts.
FAULT_AND_RING = (("a",), (("x", "not", ("x",)),), (("r", 0, "a"),), ("x", "x"))
# A net that is not small, by one wire.
BIG = (tuple(f"i{at}" for at in range(6)), (), (("r", 0, "i0"), ("s", 1, "r"), ("t", 0, "s")), ("r",))
# A counter of two bits that counts while `up` is 1, with gates in the wrong order.
COUNTER = (
    ("up",),
    (("hi", "xor", ("r1", "carry")), ("carry", "and", ("up", "r0")), ("lo", "xor", ("r0", "up"))),
    (("r0", 0, "lo"), ("r1", 0, "hi")),
    ("r1", "r0", "carry", "up"),
)


def wires_of(net):
    return [*net[0], *(gate[0] for gate in net[1]), *(reg[0] for reg in net[2])]


def plain_values(net, row, state):
    """The values of all wires, each one worked out from its arguments."""
    gates = {wire: (op, args) for wire, op, args in net[1]}
    known = dict(zip(net[0], row))
    known.update(zip((reg[0] for reg in net[2]), state))

    def value(wire):
        if wire not in known:
            op, args = gates[wire]
            known[wire] = OPS[op](*[value(arg) for arg in args])
        return known[wire]

    for wire in gates:
        value(wire)
    return known


def plain_next(net, row, state):
    values = plain_values(net, row, state)
    return tuple(values[source] for _, _, source in net[2])


def plain_outputs(net, row, state):
    values = plain_values(net, row, state)
    return tuple(values[wire] for wire in net[3])


def plain_run(net, stimulus, state=None):
    """The values of all wires at each tick, and the states with the last one."""
    states = [tuple(reg[1] for reg in net[2]) if state is None else state]
    ticks = []
    for row in stimulus:
        ticks.append(plain_values(net, row, states[-1]))
        states.append(plain_next(net, row, states[-1]))
    return ticks, states


def rows_of(count):
    """All rows of this length, ascending."""
    return [row[::-1] for row in itertools.product((0, 1), repeat=count)]


def joint_rows(net):
    """All pairs of a row and a state, ascending by their joint row."""
    split = len(net[0])
    return [(row[:split], row[split:]) for row in rows_of(split + len(net[2]))]


def random_row(source, count):
    return tuple(source.randrange(2) for _ in range(count))


def random_stimulus(source, net, ticks):
    return tuple(random_row(source, len(net[0])) for _ in range(ticks))


def random_net(source, inputs, gates, regs, outputs=3, ops=tuple(COUNTS)):
    """A sound net with its gates in any order."""
    ins = tuple(f"i{at}" for at in range(inputs))
    names = [f"r{at}" for at in range(regs)]
    pool = list(ins) + names
    made = []
    for at in range(gates):
        op = source.choice(ops if pool else ("zero", "one"))
        args = tuple(source.choice(pool) for _ in range(COUNTS[op]))
        made.append((f"g{at}", op, args))
        pool.append(f"g{at}")
    source.shuffle(made)
    made_regs = tuple((name, source.randrange(2), source.choice(pool)) for name in names)
    return ins, tuple(made), made_regs, tuple(source.sample(pool, min(outputs, len(pool))))


def chain(length, step=1, op="not"):
    """A chain of gates, each with the one before it as its argument, forward or backward."""
    gates = [(f"g{at}", op, (f"g{at - 1}" if at else "a",)) for at in range(length)]
    return ("a",), tuple(gates[::step]), (), (f"g{length - 1}",)


def wide_net(gates=2000, inputs=300, outputs=300, regs=150):
    """A net as large as one that is passed back."""
    ins = tuple(f"i{at}" for at in range(inputs))
    made = tuple((f"g{at}", "xor", (f"g{at - 1}" if at else "r0", ins[at % inputs]))
                 for at in range(gates))
    made_regs = tuple((f"r{at}", at % 2, f"g{gates - 1 - at}") for at in range(regs))
    return ins, made[::-1], made_regs, tuple(f"g{at}" for at in range(outputs))

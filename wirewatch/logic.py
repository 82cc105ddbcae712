"""Values, next states, tables and differences of sound nets (points 26 to 28)."""

from wirewatch.errors import Mismatch, TooLarge
from wirewatch.nets import check_declared
from wirewatch.order import find_order
from wirewatch.rows import check_row, input_word, lowest_one, number_row
from wirewatch.words import Word, full_value

MOST_JOINT = 8


def gate_word(op, args, full):
    """The values of a gate at many places at once.

    Each bit of an integer stands for one place. `full` has the bit 1 at all places.
    """
    if op == "and":
        return args[0] & args[1]
    if op == "or":
        return args[0] | args[1]
    if op == "xor":
        return args[0] ^ args[1]
    if op == "not":
        return args[0] ^ full
    if op == "buf":
        return args[0]
    if op == "mux":
        choice, low, high = args
        return low ^ (choice & (low ^ high))
    return full if op == "one" else 0


class Circuit:
    """A sound net that is valued again and again. Raises BadNet for another net."""

    def __init__(self, net):
        order = find_order(net)
        inputs, gates, regs, outputs = net
        found = {gate[0]: gate for gate in gates}
        self.inputs = inputs
        self.regs = [reg[0] for reg in regs]
        self.sources = [reg[2] for reg in regs]
        self.outputs = outputs
        self.sorted_gates = [found[wire] for wire in order]
        self.first_state = tuple([reg[1] for reg in regs])

    def spread(self, row, state, full=1):
        """A dict from each declared wire to its values at one or more places."""
        found = dict(zip(self.inputs, row))
        for reg, value in zip(self.regs, state):
            found[reg] = value
        for wire, op, args in self.sorted_gates:
            found[wire] = gate_word(op, [found[arg] for arg in args], full)
        return found

    def tables(self):
        """A dict from each declared wire to the value of its table. The net must be small."""
        split = len(self.inputs)
        count = split + len(self.regs)
        joint = [input_word(index, count) for index in range(count)]
        return self.spread(joint[:split], joint[split:], full_value(1 << count))

    def output_values(self, values):
        """A tuple of the values of the outputs."""
        return tuple([values[wire] for wire in self.outputs])

    def next_values(self, values):
        """A tuple of the values of the sources of the registers."""
        return tuple([values[wire] for wire in self.sources])

    def check_joint(self, row, state):
        """Raises BadRow if this is no row of the inputs, or no state."""
        check_row(row, len(self.inputs))
        check_row(state, len(self.regs))


def joint_count(net):
    """The number of inputs and registers together."""
    inputs, _, regs, _ = net
    return len(inputs) + len(regs)


def small_circuit(net):
    """The circuit of a net that must be small."""
    circuit = Circuit(net)
    if joint_count(net) > MOST_JOINT:
        raise TooLarge("small", MOST_JOINT)
    return circuit


def evaluate(net, row, state=()):
    """A dict from each declared wire to its value."""
    circuit = Circuit(net)
    circuit.check_joint(row, state)
    return circuit.spread(row, state)


def next_state(net, row, state=()):
    """The next state."""
    values = evaluate(net, row, state)
    return tuple([values[source] for _, _, source in net[2]])


def output_row(net, row, state=()):
    """The values of the outputs."""
    values = evaluate(net, row, state)
    return tuple([values[wire] for wire in net[3]])


def wire_table(net, wire):
    """The table of the wire of a small net."""
    circuit = small_circuit(net)
    check_declared(net, wire)
    return Word(1 << joint_count(net), circuit.tables()[wire])


def check_fit(first, second):
    """Raises Mismatch if the two nets do not fit."""
    if first[0] != second[0]:
        raise Mismatch("inputs")
    if [reg[:2] for reg in first[2]] != [reg[:2] for reg in second[2]]:
        raise Mismatch("regs")
    if len(first[3]) != len(second[3]):
        raise Mismatch("outputs")


def compared(circuit, values):
    """The values that decide about a difference."""
    return circuit.output_values(values) + circuit.next_values(values)


def difference(first, second):
    """The difference of two small nets whose joint row is least, or None."""
    left = small_circuit(first)
    right = small_circuit(second)
    check_fit(first, second)
    differing = 0
    for one, other in zip(compared(left, left.tables()), compared(right, right.tables())):
        differing = differing | (one ^ other)
    if differing == 0:
        return None
    joint = number_row(lowest_one(differing), joint_count(first))
    return joint[:len(first[0])], joint[len(first[0]):]


def is_difference(first, second, row, state):
    """True if `(row, state)` is a difference of the two nets, otherwise False."""
    left = Circuit(first)
    right = Circuit(second)
    left.check_joint(row, state)
    check_fit(first, second)
    return compared(left, left.spread(row, state)) != compared(right, right.spread(row, state))

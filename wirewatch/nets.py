"""Names, wires, gates and nets (points 11 to 15)."""

from wirewatch.errors import BadName, BadNet, BadRow, NameTaken, UnknownWire
from wirewatch.rows import row_number

LETTERS = "abcdefghijklmnopqrstuvwxyz"
DIGITS = "0123456789"
MOST_SIGNS = 8

OP_COUNTS = {"zero": 0, "one": 0, "buf": 1, "not": 1, "and": 2, "or": 2, "xor": 2, "mux": 3}

# The op of a gate that has always the value 0, and 1.
CONSTANTS = ("zero", "one")

# For each op its values at all rows of its arguments, ascending.
OP_BITS = {
    "zero": (0,),
    "one": (1,),
    "buf": (0, 1),
    "not": (1, 0),
    "and": (0, 0, 0, 1),
    "or": (0, 1, 1, 1),
    "xor": (0, 1, 1, 0),
    "mux": (0, 0, 1, 0, 0, 1, 1, 1),
}


def is_name(text):
    """True if the text is a name, otherwise False."""
    if not 1 <= len(text) <= MOST_SIGNS or text[0] not in LETTERS:
        return False
    return all([sign in LETTERS or sign in DIGITS for sign in text])


def is_wire(text):
    """True if the text is a wire, otherwise False."""
    return all([is_name(part) for part in text.split(".")])


def is_op(text):
    """True if the text is an op, otherwise False."""
    return text in OP_COUNTS


def check_name(name):
    """Raises BadName if the text is no name."""
    if not is_name(name):
        raise BadName(name)


def gate_value(op, bits):
    """The bit that a gate with this op has at these values of its arguments."""
    if len(bits) != OP_COUNTS[op]:
        raise BadRow(bits)
    return OP_BITS[op][row_number(bits)]


def declared_wires(net):
    """The declared wires of a net that may have faults, in order."""
    inputs, gates, regs, _ = net
    return inputs + tuple([gate[0] for gate in gates]) + tuple([reg[0] for reg in regs])


def names_fault(names, fits):
    """The first fault of names that are declared, a pair, or None."""
    seen = set()
    for name in names:
        if not fits(name):
            return "name", name
        if name in seen:
            return "twice", name
        seen.add(name)
    return None


def gates_fault(gates, known):
    """The first fault of the gates, or None. `known` is a dict of the declared wires."""
    for wire, op, args in gates:
        if not is_op(op):
            return "op", wire
        if len(args) != OP_COUNTS[op]:
            return "count", wire
        for arg in args:
            if arg not in known:
                return "unknown", arg
    return None


def regs_fault(regs, known):
    """The first fault of the registers, or None. `known` is a dict of the declared wires."""
    for wire, first, source in regs:
        if first not in (0, 1):
            return "first", wire
        if source not in known:
            return "unknown", source
    return None


def outputs_fault(outputs, known):
    """The first fault of the outputs, or None. `known` is a dict of the declared wires."""
    seen = set()
    for wire in outputs:
        if wire not in known:
            return "unknown", wire
        if wire in seen:
            return "twice", wire
        seen.add(wire)
    return None


def net_fault(net):
    """The first fault of the net, or None."""
    _, gates, regs, outputs = net
    declared = declared_wires(net)
    known = {wire: True for wire in declared}
    return (names_fault(declared, is_wire) or gates_fault(gates, known)
            or regs_fault(regs, known) or outputs_fault(outputs, known))


def check_net(net):
    """Raises BadNet with the first fault of the net, if there is one."""
    fault = net_fault(net)
    if fault is not None:
        code, wire = fault
        raise BadNet(code, wire)


def wires(net):
    """The declared wires in order."""
    check_net(net)
    return declared_wires(net)


def users(net, wire):
    """The gates with the wire as an argument, then the registers with it as their source."""
    if wire not in wires(net):
        raise UnknownWire(wire)
    _, gates, regs, _ = net
    found = [gate for gate, _, args in gates if wire in args]
    return tuple(found + [reg for reg, _, source in regs if source == wire])


def check_declared(net, wire):
    """Raises UnknownWire if the wire is not declared in the net."""
    if wire not in declared_wires(net):
        raise UnknownWire(wire)


def is_among(name, names):
    """True if one of the wires `names` is the name or begins with it and a dot, otherwise False."""
    return any([wire == name or wire.startswith(f"{name}.") for wire in names])


def is_taken(net, name):
    """True if the name is taken in the net, otherwise False."""
    declared = wires(net)
    check_name(name)
    return is_among(name, declared)


def check_free(net, name):
    """Raises BadName, or NameTaken if the name is taken in the net."""
    if is_taken(net, name):
        raise NameTaken(name)


def prefixed(name, names):
    """The wires, each with the name and a dot before it."""
    return tuple([f"{name}.{wire}" for wire in names])


def with_prefix(net, name):
    """The net with the name and a dot before each wire."""
    check_net(net)
    check_name(name)
    inputs, gates, regs, outputs = net
    new_gates = [(f"{name}.{wire}", op, prefixed(name, args)) for wire, op, args in gates]
    new_regs = [(f"{name}.{wire}", first, f"{name}.{source}") for wire, first, source in regs]
    return prefixed(name, inputs), tuple(new_gates), tuple(new_regs), prefixed(name, outputs)

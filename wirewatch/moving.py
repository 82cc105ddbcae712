"""Registers moved over gates (points 63 to 65)."""

from wirewatch.errors import BadMove, NameTaken
from wirewatch.nets import check_declared, check_name, declared_wires, gate_value, is_among
from wirewatch.order import check_sound
from wirewatch.rows import all_rows


def found_part(parts, wire):
    """The gate or the register that drives the wire, or None."""
    for part in parts:
        if part[0] == wire:
            return part
    return None


def without(parts, wire):
    """The gates or the registers but the one that drives the wire."""
    return tuple([part for part in parts if part[0] != wire])


def can_move_forward(net, gate):
    """True if moving forward over the gate is possible, otherwise False."""
    regs = {reg[0]: True for reg in net[2]}
    return len(gate[2]) > 0 and all([arg in regs for arg in gate[2]])


def can_move_back(net, reg):
    """True if moving back over the register is possible, otherwise False."""
    gate = found_part(net[1], reg[2])
    return gate is not None and len(gate[2]) > 0


def find_moves(net):
    """All directions and wires for which a move is possible."""
    check_sound(net)
    forward = [("forward", gate[0]) for gate in net[1] if can_move_forward(net, gate)]
    return tuple(forward + [("back", reg[0]) for reg in net[2] if can_move_back(net, reg)])


def movable_part(net, direction, wire):
    """The gate or the register over which the move is possible, or None."""
    part = found_part(net[1] if direction == "forward" else net[2], wire)
    if part is None:
        return None
    can_move = can_move_forward(net, part) if direction == "forward" else can_move_back(net, part)
    return part if can_move else None


def moved_forward(net, gate, name):
    """The net after moving forward over the gate."""
    inputs, gates, regs, outputs = net
    wire, op, args = gate
    old_regs = [found_part(regs, arg) for arg in args]
    first = gate_value(op, tuple([reg[1] for reg in old_regs]))
    new_gate = (name, op, tuple([reg[2] for reg in old_regs]))
    return inputs, without(gates, wire) + (new_gate,), regs + ((wire, first, name),), outputs


def least_bits(op, count, bit):
    """The least row of `count` bits at which the op has this value."""
    return [row for row in all_rows(count) if gate_value(op, row) == bit][0]


def moved_back(net, reg, name):
    """The net after moving back over the register."""
    inputs, gates, regs, outputs = net
    wire, first, source = reg
    _, op, args = found_part(gates, source)
    names = tuple([f"{name}.r{place}" for place in range(len(args))])
    new_regs = tuple(zip(names, least_bits(op, len(args), first), args))
    return inputs, gates + ((wire, op, names),), without(regs, wire) + new_regs, outputs


def after_move(net, move):
    """The net after the move. It was sound before, and so it is after the move."""
    direction, wire, name = move
    check_name(name)
    check_declared(net, wire)
    part = movable_part(net, direction, wire)
    if part is None:
        raise BadMove(wire)
    if is_among(name, declared_wires(net)):
        raise NameTaken(name)
    return moved_forward(net, part, name) if direction == "forward" else moved_back(net, part, name)


def apply_moves(net, moves):
    """The net after these moves, in order."""
    check_sound(net)
    for move in moves:
        net = after_move(net, move)
    return net


def move_forward(net, wire, name):
    """The net after moving forward over the gate `wire`."""
    return apply_moves(net, (("forward", wire, name),))


def move_back(net, wire, name):
    """The net after moving back over the register `wire`."""
    return apply_moves(net, (("back", wire, name),))

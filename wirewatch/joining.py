"""Nets joined, taken apart, cut and tied (points 39 to 41)."""

from wirewatch.errors import BadMove, NameTaken
from wirewatch.nets import check_declared, check_free, check_name, check_net, declared_wires
from wirewatch.order import check_sound


def join_nets(first, second):
    """The joined net. Inputs of the second net are the wires of the first one with their names."""
    check_sound(first)
    check_sound(second)
    known = {wire: True for wire in declared_wires(first)}
    inputs, gates, regs, outputs = second
    for part in gates + regs:
        if part[0] in known:
            raise NameTaken(part[0])
    new_inputs = [wire for wire in inputs if wire not in known]
    new_outputs = [wire for wire in outputs if wire not in first[3]]
    return (first[0] + tuple(new_inputs), first[1] + gates,
            first[2] + regs, first[3] + tuple(new_outputs))


def with_outputs(net, names):
    """The net with these outputs."""
    check_sound(net)
    inputs, gates, regs, _ = net
    new_net = (inputs, gates, regs, names)
    check_net(new_net)
    return new_net


def rested_wires(net, names):
    """A dict of all wires on which these wires rest."""
    inputs, gates, regs, _ = net
    below = {wire: () for wire in inputs}
    for wire, _, args in gates:
        below[wire] = args
    for wire, _, source in regs:
        below[wire] = (source,)
    found = {}
    left = list(names)
    while left:
        wire = left.pop()
        if wire not in found:
            found[wire] = True
            left.extend(below[wire])
    return found


def cone(net, names):
    """The net with these outputs and only what they rest on."""
    inputs, gates, regs, outputs = with_outputs(net, names)
    rested = rested_wires(net, names)
    new_gates = [gate for gate in gates if gate[0] in rested]
    new_regs = [reg for reg in regs if reg[0] in rested]
    return inputs, tuple(new_gates), tuple(new_regs), outputs


def renamed(parts, wire, name):
    """The gates or registers, of which the one that drives the wire drives the name."""
    return tuple([(name if part[0] == wire else part[0],) + part[1:] for part in parts])


def cut(net, wire, name):
    """The net in which the wire is an input and what drove it drives the name."""
    check_sound(net)
    check_name(name)
    check_declared(net, wire)
    inputs, gates, regs, outputs = net
    if wire in inputs:
        raise BadMove(wire)
    check_free(net, name)
    return inputs + (wire,), renamed(gates, wire, name), renamed(regs, wire, name), outputs


def tie(net, port, wire):
    """The net in which the input `port` is driven by the wire."""
    check_sound(net)
    check_declared(net, port)
    inputs, gates, regs, outputs = net
    if port not in inputs:
        raise BadMove(port)
    check_declared(net, wire)
    new_inputs = tuple([name for name in inputs if name != port])
    new_net = (new_inputs, gates + ((port, "buf", (wire,)),), regs, outputs)
    check_sound(new_net)
    return new_net

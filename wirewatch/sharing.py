"""Registers that are equal, and gates that are equal (points 25, 27 and 66 to 68)."""

from wirewatch.logic import joint_count, small_circuit
from wirewatch.nets import declared_wires
from wirewatch.order import depths
from wirewatch.words import full_value


def even_places(net, tables, classes):
    """The joint rows with even states, as bits of an integer."""
    even = full_value(1 << joint_count(net))
    for regs in classes:
        for wire in regs[1:]:
            even = even & ~(tables[wire] ^ tables[regs[0]])
    return even


def grouped(regs, keys):
    """The registers with equal keys together, in the order in which they stand."""
    groups = {}
    for wire in regs:
        groups.setdefault(keys[wire], []).append(wire)
    return [tuple(group) for group in groups.values()]


def next_bits(net, tables, even):
    """A dict from each register to what its next values at the even places are."""
    return {wire: tables[source] & even for wire, _, source in net[2]}


def coarsest_classes(net, tables):
    """A list of the coarsest classes.

    It begins with too few classes. Registers that are put together by any classes
    stay together, as the even states of those classes are even at each stage.
    """
    regs = [reg[0] for reg in net[2]]
    classes = grouped(regs, {wire: first for wire, first, _ in net[2]})
    count = 0
    while count != len(classes):
        count = len(classes)
        bits = next_bits(net, tables, even_places(net, tables, classes))
        keys = {}
        for number, group in enumerate(classes):
            for wire in group:
                keys[wire] = (number, bits[wire])
        classes = grouped(regs, keys)
    return classes


def register_classes(net):
    """The coarsest classes of the registers."""
    circuit = small_circuit(net)
    return tuple(coarsest_classes(net, circuit.tables()))


def is_register_classes(net, classes):
    """True if these are classes of the registers of the net, otherwise False."""
    tables = small_circuit(net).tables()
    named = []
    for group in classes:
        named.extend(group)
    if sorted(named) != sorted([reg[0] for reg in net[2]]):
        return False
    if not all([len(group) > 0 for group in classes]):
        return False
    firsts = {wire: first for wire, first, _ in net[2]}
    bits = next_bits(net, tables, even_places(net, tables, classes))
    for group in classes:
        for wire in group:
            if firsts[wire] != firsts[group[0]] or bits[wire] != bits[group[0]]:
                return False
    return True


def replaced(wires, new_wires):
    """The wires, where those that the dict has are replaced."""
    return tuple([new_wires.get(wire, wire) for wire in wires])


def replaced_sources(regs, new_wires):
    """The registers, where sources that the dict has are replaced."""
    return tuple([(wire, first, new_wires.get(source, source)) for wire, first, source in regs])


def merge_registers(net):
    """The net with one register of each of the coarsest classes."""
    kept = {}
    for group in register_classes(net):
        for wire in group[1:]:
            kept[wire] = group[0]
    inputs, gates, regs, outputs = net
    new_gates = [(wire, op, replaced(args, kept)) for wire, op, args in gates]
    shown = [(reg[0], "buf", (kept[reg[0]],)) for reg in regs
             if reg[0] in kept and reg[0] in outputs]
    left = [reg for reg in regs if reg[0] not in kept]
    return inputs, tuple(new_gates + shown), replaced_sources(left, kept), outputs


def representatives(net, tables):
    """A dict from each gate to its representative."""
    found_depths = depths(net)
    best = {}
    for wire in declared_wires(net):
        table = tables[wire]
        if table not in best or found_depths[wire] < found_depths[best[table]]:
            best[table] = wire
    return {gate[0]: best[tables[gate[0]]] for gate in net[1]}


def share_gates(net):
    """The net in which each gate is replaced by its representative."""
    chosen = representatives(net, small_circuit(net).tables())
    inputs, gates, regs, outputs = net
    new_gates = []
    for wire, op, args in gates:
        if chosen[wire] == wire:
            new_gates.append((wire, op, replaced(args, chosen)))
        elif wire in outputs:
            new_gates.append((wire, "buf", (chosen[wire],)))
    return inputs, tuple(new_gates), replaced_sources(regs, chosen), outputs

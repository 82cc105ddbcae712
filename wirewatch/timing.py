"""Nets with an enable, a reset or a delay, and unrolled nets (points 37 and 38)."""

from wirewatch.errors import BadIndex, TooLarge
from wirewatch.logic import Circuit
from wirewatch.nets import CONSTANTS, check_declared, check_free, check_name, prefixed
from wirewatch.order import check_sound

MOST_UNROLLED = 20
MOST_DELAYS = 8


def with_enable(net, name):
    """The net with a new last input: its registers keep their values while it is 0."""
    check_sound(net)
    check_free(net, name)
    inputs, gates, regs, outputs = net
    new_gates = list(gates)
    new_regs = []
    for at, (reg, first, source) in enumerate(regs):
        new_gates.append((f"{name}.h{at}", "mux", (name, reg, source)))
        new_regs.append((reg, first, f"{name}.h{at}"))
    return inputs + (name,), tuple(new_gates), tuple(new_regs), outputs


def with_reset(net, name):
    """The net with a new last input: the first state follows while it is 1."""
    check_sound(net)
    check_free(net, name)
    inputs, gates, regs, outputs = net
    new_gates = list(gates)
    new_regs = []
    for at, (reg, first, source) in enumerate(regs):
        new_gates.append((f"{name}.f{at}", CONSTANTS[first], ()))
        new_gates.append((f"{name}.h{at}", "mux", (name, source, f"{name}.f{at}")))
        new_regs.append((reg, first, f"{name}.h{at}"))
    return inputs + (name,), tuple(new_gates), tuple(new_regs), outputs


def reg_gates(regs, tick):
    """The gates that the registers become at the tick."""
    if tick == 0:
        return [(f"t0.{reg}", CONSTANTS[first], ()) for reg, first, _ in regs]
    return [(f"t{tick}.{reg}", "buf", (f"t{tick - 1}.{source}",)) for reg, _, source in regs]


def unroll(net, ticks):
    """The net unrolled over this number of ticks."""
    check_sound(net)
    if ticks < 0:
        raise BadIndex(ticks)
    if ticks > MOST_UNROLLED:
        raise TooLarge("ticks", MOST_UNROLLED)
    inputs, gates, regs, outputs = net
    new_inputs = []
    new_gates = []
    new_outputs = []
    for tick in range(ticks):
        name = f"t{tick}"
        new_inputs.extend(prefixed(name, inputs))
        new_gates.extend(reg_gates(regs, tick))
        new_gates.extend([(f"{name}.{wire}", op, prefixed(name, args)) for wire, op, args in gates])
        new_outputs.extend(prefixed(name, outputs))
    return tuple(new_inputs), tuple(new_gates), (), tuple(new_outputs)


def after_row(net, row):
    """The net that begins with the state after the row."""
    circuit = Circuit(net)
    state = circuit.first_state
    circuit.check_joint(row, state)
    inputs, gates, regs, outputs = net
    firsts = circuit.next_values(circuit.spread(row, state))
    new_regs = [(reg, first, source) for (reg, _, source), first in zip(regs, firsts)]
    return inputs, gates, tuple(new_regs), outputs


def add_delay(net, wire, count, name):
    """The net with a new last output that shows the wire `count` ticks later."""
    check_sound(net)
    if not 1 <= count <= MOST_DELAYS:
        raise BadIndex(count)
    check_name(name)
    check_declared(net, wire)
    check_free(net, name)
    inputs, gates, regs, outputs = net
    sources = [wire] + [f"{name}.r{at}" for at in range(count)]
    delays = [(f"{name}.r{at}", 0, sources[at]) for at in range(count)]
    return inputs, gates, regs + tuple(delays), outputs + (sources[-1],)

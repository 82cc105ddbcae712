"""Steps that rewrite a net, and the price of a net (points 31 to 33)."""

from wirewatch.errors import BadStep, UnknownWire
from wirewatch.logic import gate_word
from wirewatch.nets import CONSTANTS
from wirewatch.order import check_sound, find_order
from wirewatch.rows import input_word
from wirewatch.words import Word, full_value

WEIGHTS = {"zero": 1, "one": 1, "buf": 2, "not": 3, "and": 4, "or": 4, "xor": 4, "mux": 5}


class Scene:
    """What the rules ask about a sound net."""

    def __init__(self, net):
        _, gates, regs, outputs = net
        self.gates = {gate[0]: gate for gate in gates}
        self.regs = {reg[0]: reg for reg in regs}
        self.firsts = {}
        self.used = {wire: True for wire in outputs}
        for wire, op, args in gates:
            self.firsts.setdefault((op, args), wire)
            for arg in args:
                self.used[arg] = True
        for _, _, source in regs:
            self.used[source] = True

    def behind(self, wire, op):
        """The argument of a gate with this op, `buf` or `not`. None for another wire."""
        if wire in self.gates and self.gates[wire][1] == op:
            return self.gates[wire][2][0]
        return None

    def without_buf(self, wire):
        """The argument of a `buf` gate. Another wire itself."""
        source = self.behind(wire, "buf")
        return wire if source is None else source

    def constant_bit(self, wire):
        """The value of a constant gate. None for another wire."""
        op = self.gates[wire][1] if wire in self.gates else ""
        return CONSTANTS.index(op) if op in CONSTANTS else None


class Local:
    """The free wires and the local table of a gate."""

    def __init__(self, scene, gate):
        _, op, args = gate
        bits = {arg: scene.constant_bit(arg) for arg in args}
        self.free = tuple([arg for arg in bits if bits[arg] is None])
        count = len(self.free)
        self.full = full_value(1 << count)
        self.shown = [input_word(index, count) for index in range(count)]
        words = {arg: self.full if bits[arg] == 1 else 0 for arg in bits}
        for wire, word in zip(self.free, self.shown):
            words[wire] = word
        self.table = gate_word(op, [words[arg] for arg in args], self.full)

    def wire_of(self, table):
        """The free wire that has this table, or None."""
        return self.free[self.shown.index(table)] if table in self.shown else None


# A rule gives a tuple of the gates that take the place of the gate, or None if
# it does not apply there.


def skip_gate(scene, gate, local):
    """Arguments that are `buf` gates are replaced by what is behind them."""
    wire, op, args = gate
    new_args = tuple([scene.without_buf(arg) for arg in args])
    return None if new_args == args else ((wire, op, new_args),)


def fold_gate(scene, gate, local):
    """A gate that has always the same value becomes constant."""
    wire, op, _ = gate
    if op in CONSTANTS or local.table not in (0, local.full):
        return None
    return ((wire, CONSTANTS[0 if local.table == 0 else 1], ()),)


def pass_gate(scene, gate, local):
    """A gate that shows a free wire becomes its `buf`."""
    wire, op, _ = gate
    shown = local.wire_of(local.table)
    return None if op == "buf" or shown is None else ((wire, "buf", (shown,)),)


def turn_gate(scene, gate, local):
    """A gate that shows the other bit of a free wire becomes its `not`."""
    wire, op, _ = gate
    shown = local.wire_of(local.table ^ local.full)
    return None if op == "not" or shown is None else ((wire, "not", (shown,)),)


def thin_gate(scene, gate, local):
    """A `mux` that is the `and` or the `or` of two free wires becomes that."""
    wire, op, _ = gate
    if op == "mux" and len(local.free) == 2:
        for thin in ("and", "or"):
            if local.table == gate_word(thin, local.shown, local.full):
                return ((wire, thin, local.free),)
    return None


def double_gate(scene, gate, local):
    """The `not` of a `not` becomes the `buf` of what is behind."""
    wire, op, args = gate
    source = scene.behind(args[0], "not") if op == "not" else None
    return None if source is None else ((wire, "buf", (source,)),)


def share_gate(scene, gate, local):
    """A gate that is like an earlier one becomes the `buf` of the first such gate."""
    wire, op, args = gate
    first = scene.firsts[op, args]
    if op == "buf" or op in CONSTANTS or first == wire:
        return None
    return ((wire, "buf", (first,)),)


def can_swap(gate):
    """True if the two arguments of the gate can be exchanged and stand in the wrong order."""
    _, op, args = gate
    return op in ("and", "or", "xor") and args[1] < args[0]


def swap_gate(scene, gate, local):
    """Two arguments that can be exchanged come to stand in the right order."""
    wire, op, args = gate
    return ((wire, op, (args[1], args[0])),) if can_swap(gate) else None


def drop_gate(scene, gate, local):
    """A gate that nothing uses is taken out."""
    return None if gate[0] in scene.used else ()


RULES = (
    ("skip", skip_gate),
    ("fold", fold_gate),
    ("pass", pass_gate),
    ("turn", turn_gate),
    ("thin", thin_gate),
    ("double", double_gate),
    ("share", share_gate),
    ("swap", swap_gate),
    ("drop", drop_gate),
)


def gate_changes(scene, gate):
    """The pairs of a rule that applies at the gate and of what takes its place."""
    local = Local(scene, gate)
    found = []
    for rule, change in RULES:
        parts = change(scene, gate, local)
        if parts is not None:
            found.append((rule, parts))
    return found


def reg_changes(scene, reg):
    """The pairs of a rule that applies at the register and of what takes its place."""
    wire, first, source = reg
    new_source = scene.without_buf(source)
    return [] if new_source == source else [("skip", ((wire, first, new_source),))]


def changes_at(scene, wire):
    """The pairs of a rule that applies at the wire and of what takes its place."""
    if wire in scene.gates:
        return gate_changes(scene, scene.gates[wire])
    if wire in scene.regs:
        return reg_changes(scene, scene.regs[wire])
    return []


def first_step(net):
    """The first step that applies to the sound net, or None."""
    scene = Scene(net)
    for wire in list(scene.gates) + list(scene.regs):
        changes = changes_at(scene, wire)
        if changes:
            return changes[0][0], wire
    return None


def replaced(items, wire, parts):
    """The gates or the registers with `parts` in the place of that of the wire."""
    for at, item in enumerate(items):
        if item[0] == wire:
            return items[:at] + parts + items[at + 1:]
    return items


def net_after(net, step):
    """The net after the step, or None if the step does not apply to the sound net."""
    inputs, gates, regs, outputs = net
    for rule, parts in changes_at(Scene(net), step[1]):
        if rule == step[0]:
            return inputs, replaced(gates, step[1], parts), replaced(regs, step[1], parts), outputs
    return None


def local_table(net, wire):
    """The free wires and the local table of the gate."""
    check_sound(net)
    scene = Scene(net)
    if wire not in scene.gates:
        raise UnknownWire(wire)
    local = Local(scene, scene.gates[wire])
    return local.free, Word(1 << len(local.free), local.table)


def steps(net):
    """All steps that apply."""
    check_sound(net)
    scene = Scene(net)
    found = []
    for wire in list(scene.gates) + list(scene.regs):
        found.extend([(rule, wire) for rule, _ in changes_at(scene, wire)])
    return tuple(found)


def apply_step(net, step):
    """The net after the step."""
    check_sound(net)
    after = net_after(net, step)
    if after is None:
        rule, wire = step
        raise BadStep(rule, wire)
    return after


def link_numbers(scene, order):
    """A dict from each gate to the number of `buf` gates in a row that begins with it."""
    found = {}
    for wire in order:
        source = scene.behind(wire, "buf")
        found[wire] = 0 if source is None else 1 + found.get(source, 0)
    return found


def price(net):
    """The price of the net."""
    order = find_order(net)
    _, gates, regs, _ = net
    scene = Scene(net)
    numbers = link_numbers(scene, order)
    weight = sum([WEIGHTS[op] for _, op, _ in gates])
    linked = [arg for _, _, args in gates for arg in args] + [reg[2] for reg in regs]
    swaps = [gate for gate in gates if can_swap(gate)]
    return weight, sum([numbers.get(wire, 0) for wire in linked]), len(swaps)

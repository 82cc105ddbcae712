"""Flattening: a design and one of its modules turned into a net (point 22)."""

from wirewatch.design import check_design
from wirewatch.errors import TooLarge, UnknownName
from wirewatch.nets import CONSTANTS

MOST_PARTS = 200


def top_name(design, top):
    """The name of the top. None means the last module."""
    names = [module[0] for module in design]
    if top is None:
        top = names[-1] if names else ""
    if top not in names:
        raise UnknownName(top)
    return top


def item_size(item, sizes):
    """The number of gates and registers of the item. `sizes` has those of earlier modules."""
    if item[0] == "gate":
        return 1
    if item[0] == "use":
        return len(item[3]) + sizes[item[2]]
    _, _, _, _, when, clear = item
    return 1 + (0 if when is None else 1) + (0 if clear is None else 2)


def flat_size(design, *, top=None):
    """The number of gates plus the number of registers that flattening gives."""
    check_design(design)
    name = top_name(design, top)
    sizes = {}
    for module in design:
        sizes[module[0]] = sum([item_size(item, sizes) for item in module[3]])
    return sizes[name]


def reg_parts(item, prefix):
    """The gates, and then the register, of a register item."""
    _, name, first, signal, when, clear = item
    wire = f"{prefix}{name}"
    source = f"{prefix}{signal}"
    gates = []
    if when is not None:
        gates.append((f"{wire}.hold", "mux", (f"{prefix}{when}", wire, source)))
        source = f"{wire}.hold"
    if clear is not None:
        gates.append((f"{wire}.first", CONSTANTS[first], ()))
        args = (f"{prefix}{clear}", source, f"{wire}.first")
        gates.append((f"{wire}.clear", "mux", args))
        source = f"{wire}.clear"
    return gates, (wire, first, source)


class Visit:
    """A visit of a design, which gathers gates and registers."""

    def __init__(self, design):
        self.modules = {module[0]: module for module in design}
        self.gates = []
        self.regs = []

    def see_module(self, name, prefix):
        """Visits the items of the module. A used module stands earlier, so this ends."""
        for item in self.modules[name][3]:
            if item[0] == "gate":
                self.see_gate(item, prefix)
            elif item[0] == "reg":
                gates, reg = reg_parts(item, prefix)
                self.gates.extend(gates)
                self.regs.append(reg)
            else:
                self.see_use(item, prefix)

    def see_gate(self, item, prefix):
        """Gathers a gate item."""
        _, name, op, signals = item
        sources = tuple([f"{prefix}{signal}" for signal in signals])
        self.gates.append((f"{prefix}{name}", op, sources))

    def see_use(self, item, prefix):
        """Gathers the inputs of an instance and visits it."""
        _, name, module, signals = item
        inner = f"{prefix}{name}."
        for port, signal in zip(self.modules[module][1], signals):
            self.gates.append((f"{inner}{port}", "buf", (f"{prefix}{signal}",)))
        self.see_module(module, inner)


def flatten(design, *, top=None):
    """The net of the top, with all that it uses."""
    size = flat_size(design, top=top)
    if size > MOST_PARTS:
        raise TooLarge("gates", MOST_PARTS)
    name = top_name(design, top)
    visit = Visit(design)
    visit.see_module(name, "")
    _, inputs, outputs, _ = visit.modules[name]
    return inputs, tuple(visit.gates), tuple(visit.regs), outputs

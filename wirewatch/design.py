"""Designs: modules that use earlier modules (points 16 and 17)."""

from wirewatch.errors import BadDesign
from wirewatch.nets import OP_COUNTS, is_name, is_op, names_fault


def own_signals(module):
    """The declared inputs, gates and registers of the module."""
    _, inputs, _, items = module
    return list(inputs) + [item[1] for item in items if item[0] != "use"]


def used_signals(module, earlier):
    """The signals `I.P` of the module. `earlier` has the earlier modules by their names."""
    found = []
    for item in module[3]:
        if item[0] == "use" and item[2] in earlier:
            _, _, outputs, _ = earlier[item[2]]
            found.extend([f"{item[1]}.{port}" for port in outputs])
    return found


def item_signals(item):
    """The signals that the item names, in order."""
    if item[0] == "reg":
        return tuple([signal for signal in item[3:] if signal is not None])
    return item[3]


def declared_names(module):
    """The declared names of the module, in order."""
    _, inputs, _, items = module
    return list(inputs) + [item[1] for item in items]


def outputs_fault(module):
    """The first fault of the outputs, a pair of code and item, or None."""
    known = own_signals(module)
    seen = set()
    for output in module[2]:
        if output in seen:
            return "twice", output
        if output not in known:
            return "signal", output
        seen.add(output)
    return None


def kind_code(item, earlier):
    """The code of the fault that belongs to the kind of the item, or None."""
    if item[0] == "gate":
        if not is_op(item[2]):
            return "op"
        return None if len(item[3]) == OP_COUNTS[item[2]] else "count"
    if item[0] == "reg":
        return None if item[2] in (0, 1) else "first"
    if item[2] not in earlier:
        return "use"
    return None if len(item[3]) == len(earlier[item[2]][1]) else "count"


def items_fault(module, earlier):
    """The first fault of the items, a pair of code and item, or None."""
    known = {signal: True for signal in own_signals(module) + used_signals(module, earlier)}
    for item in module[3]:
        code = kind_code(item, earlier)
        if code is not None:
            return code, item[1]
        for signal in item_signals(item):
            if signal not in known:
                return "signal", item[1]
    return None


def module_fault(module, earlier):
    """The first fault of the module, a pair of code and item, or None."""
    if not is_name(module[0]):
        return "name", ""
    if module[0] in earlier:
        return "twice", ""
    return (names_fault(declared_names(module), is_name)
            or outputs_fault(module) or items_fault(module, earlier))


def design_fault(design):
    """The first fault of the design, or None."""
    earlier = {}
    for module in design:
        fault = module_fault(module, earlier)
        if fault is not None:
            code, item = fault
            return code, module[0], item
        earlier[module[0]] = module
    return None


def check_design(design):
    """Raises BadDesign with the first fault of the design, if there is one."""
    fault = design_fault(design)
    if fault is not None:
        code, module, item = fault
        raise BadDesign(code, module, item)

"""The rules of point 32 in plain words: a reading for the tests of steps and of rewriting."""

from samples import OPS, rows_of

CONSTANT = {"zero": 0, "one": 1}


def gates_of(net):
    return {wire: (op, args) for wire, op, args in net[1]}


def free_wires(net, wire):
    gates = gates_of(net)
    free = []
    for arg in gates[wire][1]:
        if arg not in free and not (arg in gates and gates[arg][0] in CONSTANT):
            free.append(arg)
    return free


def local_bits(net, wire):
    """The values of the gate, at the rows of its free wires."""
    gates = gates_of(net)
    op, args = gates[wire]
    free = free_wires(net, wire)
    found = []
    for row in rows_of(len(free)):
        values = dict(zip(free, row))
        found.append(OPS[op](*[values[arg] if arg in values else CONSTANT[gates[arg][0]] for arg in args]))
    return found


def op_bits(op, count):
    return [OPS[op](*row) for row in rows_of(count)]


def input_bits(at, count):
    return [row[at] for row in rows_of(count)]


def changed(net, wire, op, args):
    gates = tuple((name, op, tuple(args)) if name == wire else (name, was, old) for name, was, old in net[1])
    return net[0], gates, net[2], net[3]


def without_bufs(net, args):
    gates = gates_of(net)
    return tuple(gates[arg][1][0] if arg in gates and gates[arg][0] == "buf" else arg for arg in args)


def results_at_gate(net, place):
    """A dict from each rule that applies at the gate to the net after the step."""
    gates = gates_of(net)
    op, args = gates[place]
    free = free_wires(net, place)
    bits = local_bits(net, place)
    found = {}
    if without_bufs(net, args) != args:
        found["skip"] = changed(net, place, op, without_bufs(net, args))
    if op not in CONSTANT and len(set(bits)) == 1:
        found["fold"] = changed(net, place, ("zero", "one")[bits[0]], ())
    if op not in ("buf", "zero", "one"):
        for at, wire in enumerate(free):
            if bits == input_bits(at, len(free)):
                found["pass"] = changed(net, place, "buf", (wire,))
    if op not in ("not", "zero", "one"):
        for at, wire in enumerate(free):
            if bits == [1 - bit for bit in input_bits(at, len(free))]:
                found["turn"] = changed(net, place, "not", (wire,))
    if op == "mux" and len(free) == 2:
        for other in ("and", "or"):
            if bits == op_bits(other, 2):
                found["thin"] = changed(net, place, other, free)
    if op == "not" and args[0] in gates and gates[args[0]][0] == "not":
        found["double"] = changed(net, place, "buf", gates[args[0]][1])
    if op not in ("buf", "zero", "one"):
        for wire, other, other_args in net[1]:
            if wire == place:
                break
            if (other, other_args) == (op, args):
                found["share"] = changed(net, place, "buf", (wire,))
                break
    if op in ("and", "or", "xor") and args[1] < args[0]:
        found["swap"] = changed(net, place, op, args[::-1])
    used = [arg for _, _, more in net[1] for arg in more]
    used += [reg[2] for reg in net[2]] + list(net[3])
    if place not in used:
        found["drop"] = (net[0], tuple(gate for gate in net[1] if gate[0] != place), net[2], net[3])
    return found


def results_at_reg(net, place):
    source = next(reg[2] for reg in net[2] if reg[0] == place)
    skipped = without_bufs(net, (source,))[0]
    if skipped == source:
        return {}
    regs = tuple((wire, first, skipped if wire == place else old) for wire, first, old in net[2])
    return {"skip": (net[0], net[1], regs, net[3])}


def results(net):
    """A list of (step, net after it), for all steps that apply, in order."""
    found = []
    for wire, _, _ in net[1]:
        found += [((rule, wire), after) for rule, after in results_at_gate(net, wire).items()]
    for wire, _, _ in net[2]:
        found += [((rule, wire), after) for rule, after in results_at_reg(net, wire).items()]
    return found


def plain_price(net):
    gates = gates_of(net)

    def links(wire):
        return 1 + links(gates[wire][1][0]) if wire in gates and gates[wire][0] == "buf" else 0

    weights = {"zero": 1, "one": 1, "buf": 2, "not": 3, "mux": 5}
    linked = [arg for _, _, args in net[1] for arg in args] + [reg[2] for reg in net[2]]
    swaps = sum(1 for step, _ in results(net) if step[0] == "swap")
    return sum(weights.get(op, 4) for _, op, _ in net[1]), sum(map(links, linked)), swaps


def plain_rewrite(net, limit):
    chain = []
    while len(chain) < limit:
        found = results(net)
        if not found:
            break
        chain.append(found[0][0])
        net = found[0][1]
    return net, tuple(chain)

"""Diagrams of tables, and canonical nets (points 29 and 30)."""

from wirewatch.errors import BadDiagram, BadIndex, BadRow, NameTaken
from wirewatch.logic import small_circuit
from wirewatch.nets import CONSTANTS, check_name, is_among
from wirewatch.rows import MOST_INPUTS, check_row, input_word, lowest_one, number_row, table_inputs
from wirewatch.words import Word, full_value


def check_count(count):
    """Raises BadIndex if this is no number of inputs of a diagram."""
    if not 0 <= count <= MOST_INPUTS:
        raise BadIndex(count)


def node_fits(count, nodes, place):
    """True if the node at this place fits to the inputs and to the nodes below it."""
    index, low, high = nodes[place]
    if not 0 <= index < count or low == high:
        return False
    for below in (low, high):
        if not 0 <= below < place + 2:
            return False
        if below > 1 and nodes[below - 2][0] <= index:
            return False
    return True


def walk(nodes, number, order):
    """Adds the numbers of the nodes to `order` as the walk of point 29 leaves them.

    The indexes of the nodes must grow, so the calls go no deeper than the inputs.
    """
    if number > 1 and number not in order:
        _, low, high = nodes[number - 2]
        walk(nodes, low, order)
        walk(nodes, high, order)
        order.append(number)


def is_numbered(root, nodes):
    """True if the nodes have the numbers that the walk from the root gives them."""
    order = []
    walk(nodes, root, order)
    return order == [place + 2 for place in range(len(nodes))]


def is_diagram(count, diagram):
    """True if the pair is a diagram of `count` inputs, otherwise False."""
    check_count(count)
    root, nodes = diagram
    if not 0 <= root < len(nodes) + 2 or len(set(nodes)) < len(nodes):
        return False
    if not all([node_fits(count, nodes, place) for place in range(len(nodes))]):
        return False
    return is_numbered(root, nodes)


def check_diagram(count, diagram):
    """Raises BadIndex for the count, BadDiagram if this is no diagram of `count` inputs."""
    if not is_diagram(count, diagram):
        raise BadDiagram(diagram)


class Numbering:
    """Nodes that are numbered as functions are walked one after another."""

    def __init__(self):
        self.nodes = []
        self.numbers = {}

    def number_of(self, bits, index=0):
        """The number of the function with these values over the inputs from `index` on."""
        if all([bit == bits[0] for bit in bits]):
            return bits[0]
        low = self.number_of(bits[::2], index + 1)
        high = self.number_of(bits[1::2], index + 1)
        if low == high:
            return low
        node = (index, low, high)
        if node not in self.numbers:
            self.nodes.append(node)
            self.numbers[node] = len(self.nodes) + 1
        return self.numbers[node]


def diagram_of(table):
    """The diagram of the table."""
    table_inputs(table)
    found = Numbering()
    root = found.number_of(table.bits)
    return root, tuple(found.nodes)


def diagram_word(count, diagram):
    """The value of the table of the diagram."""
    root, nodes = diagram
    values = [0, full_value(1 << count)]
    for index, low, high in nodes:
        choice = input_word(index, count)
        values.append(values[low] ^ (choice & (values[low] ^ values[high])))
    return values[root]


def diagram_table(count, diagram):
    """The table of `count` inputs with the values of the diagram."""
    check_diagram(count, diagram)
    return Word(1 << count, diagram_word(count, diagram))


def diagram_value(row, diagram):
    """The value of the diagram at the row."""
    if len(row) > MOST_INPUTS:
        raise BadRow(row)
    check_row(row, len(row))
    check_diagram(len(row), diagram)
    number, nodes = diagram
    while number > 1:
        index, low, high = nodes[number - 2]
        number = low if row[index] == 0 else high
    return number


def combine(count, op, first, second):
    """The diagram of the gate `op` at the values of the two diagrams."""
    left = diagram_table(count, first)
    right = diagram_table(count, second)
    if op == "and":
        return diagram_of(left & right)
    if op == "or":
        return diagram_of(left | right)
    return diagram_of(left ^ right)


def restrict(count, diagram, index, bit):
    """The diagram with the values at the rows whose bit at `index` is replaced by `bit`."""
    table = diagram_table(count, diagram)
    if not 0 <= index < count:
        raise BadIndex(index)
    place = 1 << index
    # Each number with the bit at `index` set, or with it taken away.
    bits = [table[(number | place) ^ (0 if bit == 1 else place)] for number in range(1 << count)]
    return diagram_of(Word.from_row(tuple(bits)))


def count_ones(count, diagram):
    """The number of rows of `count` bits at which the value is 1."""
    return diagram_table(count, diagram).ones


def least_row(count, diagram):
    """The least row of `count` bits at which the value is 1, or None."""
    table = diagram_table(count, diagram)
    return None if table.value == 0 else number_row(lowest_one(table.value), count)


def root_numbers(circuit, found, wires):
    """A list of the numbers of these wires, which are walked one after another."""
    tables = circuit.tables()
    width = 1 << (len(circuit.inputs) + len(circuit.regs))
    return [found.number_of(Word(width, tables[wire]).bits) for wire in wires]


def check_unused(net, name):
    """Raises NameTaken if a wire that the canonical net keeps has the name."""
    inputs, _, regs, outputs = net
    if is_among(name, inputs + tuple([reg[0] for reg in regs]) + outputs):
        raise NameTaken(name)


def number_gates(net, name, nodes, roots):
    """The gates of the constants that are used and of the nodes."""
    inputs, _, regs, _ = net
    joint = list(inputs) + [reg[0] for reg in regs]
    used = list(roots)
    for _, low, high in nodes:
        used.extend([low, high])
    made = [(f"{name}.g{bit}", op, ()) for bit, op in enumerate(CONSTANTS) if bit in used]
    for number, (index, low, high) in enumerate(nodes, start=2):
        args = (joint[index], f"{name}.g{low}", f"{name}.g{high}")
        made.append((f"{name}.g{number}", "mux", args))
    return made


def canonical_net(net, *, name="n"):
    """The canonical net of a small net."""
    circuit = small_circuit(net)
    check_name(name)
    check_unused(net, name)
    inputs, gates, regs, outputs = net
    made = {gate[0]: True for gate in gates}
    driven = [wire for wire in outputs if wire in made]
    found = Numbering()
    roots = root_numbers(circuit, found, driven + circuit.sources)
    new_gates = number_gates(net, name, found.nodes, roots)
    new_regs = []
    for wire, number in zip(driven, roots):
        new_gates.append((wire, "buf", (f"{name}.g{number}",)))
    for (wire, first, _), number in zip(regs, roots[len(driven):]):
        new_regs.append((wire, first, f"{name}.g{number}"))
    return inputs, tuple(new_gates), tuple(new_regs), outputs

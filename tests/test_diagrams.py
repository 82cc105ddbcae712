"""diagrams.py: diagrams of tables, and canonical nets (points 10, 29 and 30)."""

import copy
import itertools
import random
import unittest

import samples
from checks import CheckCase
from samples import BIG, COUNTER, FAULT, FAULT_AND_RING, RING
from wirewatch.diagrams import (canonical_net, combine, count_ones, diagram_of, diagram_table,
                                diagram_value, is_diagram, least_row, restrict)
from wirewatch.errors import (BadDiagram, BadIndex, BadName, BadNet, BadRow, BadTable, NameTaken,
                              TooLarge)
from wirewatch.logic import difference
from wirewatch.nets import net_fault
from wirewatch.words import Word

ZERO = (0, ())
ONE = (1, ())
AND = (3, ((1, 0, 1), (0, 0, 2)))
XOR = (4, ((1, 0, 1), (1, 1, 0), (0, 2, 3)))
WRONG_COUNTS = (-1, 9, 10 ** 99, -10 ** 99)

# Each of these breaks one condition of point 29 alone, for the number of inputs beside it and
# for each greater one, unless its index is what is wrong.
NO_DIAGRAMS = [
    # The root is out of range.
    (2, (4, AND[1])), (2, (-1, AND[1])), (0, (2, ())), (0, (-1, ())), (8, (10 ** 99, ())),
    # A low or high is out of range: the node's own number, a later one, below 0.
    (1, (2, ((0, 2, 1),))), (1, (2, ((0, 0, 2),))), (1, (2, ((0, 3, 1),))),
    (1, (2, ((0, -1, 1),))), (1, (2, ((0, 0, -1),))), (1, (2, ((0, 0, 10 ** 99),))),
    (2, (3, ((0, 0, 3), (1, 0, 1)))), (2, (2, ((0, 0, 3), (1, 0, 1)))),
    # Low equals high.
    (1, (2, ((0, 0, 0),))), (1, (2, ((0, 1, 1),))), (2, (3, ((1, 0, 1), (0, 2, 2)))),
    # The index of a node below does not grow.
    (2, (3, ((0, 0, 1), (0, 1, 2)))), (2, (3, ((0, 0, 1), (1, 1, 2)))),
    (2, (3, ((0, 0, 1), (0, 2, 0)))), (3, (3, ((1, 0, 1), (2, 2, 0)))),
    # Two nodes are equal.
    (2, (4, ((1, 0, 1), (1, 0, 1), (0, 2, 3)))), (1, (2, ((0, 0, 1), (0, 0, 1)))),
    # Another numbering.
    (2, (4, ((1, 1, 0), (1, 0, 1), (0, 3, 2)))),
    (3, (5, ((2, 0, 1), (1, 2, 0), (1, 0, 2), (0, 4, 3)))),
    (3, (5, ((2, 0, 1), (2, 1, 0), (1, 2, 0), (0, 4, 3)))),
    # A node is not reached.
    (1, (0, ((0, 0, 1),))), (1, (1, ((0, 0, 1),))), (1, (2, ((0, 0, 1), (0, 1, 0)))),
    (1, (3, ((0, 0, 1), (0, 1, 0)))), (2, (2, AND[1])), (3, (3, ((1, 0, 1), (0, 0, 2), (2, 0, 1)))),
]
# The index of a node is out of range.
WRONG_INDEXES = [
    (1, (2, ((-1, 0, 1),))), (0, (2, ((0, 0, 1),))), (1, (2, ((1, 0, 1),))), (1, AND), (0, XOR),
    (8, (2, ((8, 0, 1),))), (8, (2, ((10 ** 99, 0, 1),))), (2, (3, ((2, 0, 1), (0, 0, 2)))),
    (2, (3, ((1, 0, 1), (-1, 0, 2)))),
]


def bit_of(table, row):
    return table[sum(bit << at for at, bit in enumerate(row))]


def value_of(diagram, row):
    """The value of the diagram, as point 29 tells it."""
    number, nodes = diagram
    while number not in (0, 1):
        index, low, high = nodes[number - 2]
        number = high if row[index] else low
    return number


def is_right(count, diagram):
    """The conditions of point 29, one after another."""
    root, nodes = diagram
    if root not in range(len(nodes) + 2):
        return False
    index_of = {at + 2: node[0] for at, node in enumerate(nodes)}
    for number, (index, low, high) in enumerate(nodes, start=2):
        if index not in range(count) or low == high:
            return False
        if low not in range(number) or high not in range(number):
            return False
        if any(below in index_of and index_of[below] <= index for below in (low, high)):
            return False
    if len(set(nodes)) != len(nodes):
        return False
    given = {0: 0, 1: 1}

    def visit(number):
        if number not in given:
            visit(nodes[number - 2][1])
            visit(nodes[number - 2][2])
            given[number] = len(given)

    visit(root)
    return len(given) == len(nodes) + 2 and all(given[number] == number for number in given)


def some_tables(source, count, most=40):
    """All tables of few inputs, some of many, simple ones among them."""
    size = 2 ** count
    if count <= 3:
        return [Word(size, value) for value in range(2 ** size)]
    found = [Word(size, 0), Word(size, 2 ** size - 1), Word(size, 1), Word(size, 1 << (size - 1))]
    for at in range(count):
        found.append(Word.from_row(tuple(row[at] for row in samples.rows_of(count))))
    found.append(Word.from_row(tuple(sum(row) % 2 for row in samples.rows_of(count))))
    while len(found) < most:
        value = source.getrandbits(size)
        if len(found) % 2:
            value &= found[source.randrange(4, 4 + count)].value
        found.append(Word(size, value))
    return found


class IsDiagramTest(CheckCase):
    def test_good_ones(self):
        for count in range(9):
            for diagram in (ZERO, ONE):
                self.same(is_diagram(count, diagram), True)
            self.same(is_diagram(count, (2, ((0, 0, 1),))), count >= 1)
            self.same(is_diagram(count, (2, ((7, 1, 0),))), count == 8)
            for diagram in (AND, XOR):
                self.same(is_diagram(count, diagram), count >= 2)

    def test_each_condition_alone(self):
        for count, diagram in NO_DIAGRAMS:
            for more in range(count, 9):
                with self.subTest((more, diagram)):
                    self.same(is_diagram(more, diagram), False)
                    self.assertFalse(is_right(more, diagram))
                    self.fails(BadDiagram(diagram), diagram_table, more, diagram)

    def test_indexes_out_of_range(self):
        for count, diagram in WRONG_INDEXES:
            with self.subTest((count, diagram)):
                self.same(is_diagram(count, diagram), False)
                self.fails(BadDiagram(diagram), diagram_table, count, diagram)

    def test_all_small_pairs(self):
        numbers = range(-1, 5)
        parts = [(index, low, high) for index in range(3) for low in range(4) for high in range(4)]
        for nodes in [(), *itertools.product(parts), *itertools.product(parts, repeat=2)]:
            for root in numbers:
                self.same(is_diagram(2, (root, nodes)), is_right(2, (root, nodes)))

    def test_bent_diagrams(self):
        source = random.Random(1)
        for _ in range(1500):
            count = source.randrange(1, 9)
            root, nodes = diagram_of(Word(2 ** count, source.getrandbits(2 ** count)))
            nodes = [list(node) for node in nodes]
            if nodes:
                at = source.randrange(len(nodes))
                nodes[at][source.randrange(3)] += source.choice((-1, 1))
            if source.randrange(5) == 0:
                source.shuffle(nodes)
            diagram = root, tuple(tuple(node) for node in nodes)
            self.same(is_diagram(count, diagram), is_right(count, diagram))

    def test_wrong_counts(self):
        for count in WRONG_COUNTS:
            self.fails(BadIndex(count), is_diagram, count, (9, ()))

    def test_many_nodes(self):
        nodes = tuple((at % 8, at, at + 1) for at in range(400))
        self.same(is_diagram(8, (401, nodes)), False)
        nodes = tuple((7, 0, 1) for _ in range(400))
        self.same(is_diagram(8, (2, nodes)), False)


class TablesTest(CheckCase):
    def test_examples(self):
        self.same(diagram_of(Word(4, 8)), AND)
        self.same(diagram_of(Word(4, 6)), XOR)
        self.same(diagram_of(Word(1, 0)), ZERO)
        self.same(diagram_of(Word(1, 1)), ONE)
        self.same(diagram_of(Word(256, 0)), ZERO)
        self.same(diagram_of(Word(256, 2 ** 256 - 1)), ONE)
        self.same(diagram_of(Word(2, 1)), (2, ((0, 1, 0),)))

    def test_there_and_back(self):
        source = random.Random(2)
        for count in range(9):
            seen = set()
            for table in some_tables(source, count):
                diagram = diagram_of(table)
                self.assertTrue(is_right(count, diagram))
                self.same(is_diagram(count, diagram), True)
                self.same(diagram_table(count, diagram), table)
                seen.add(diagram)
                for row in samples.rows_of(count):
                    self.assertEqual(value_of(diagram, row), bit_of(table, row))
            if count <= 3:
                self.assertEqual(len(seen), 2 ** (2 ** count))

    def test_greater_numbers_of_inputs(self):
        for count in range(2, 9):
            for diagram in (AND, XOR, ZERO, ONE):
                table = diagram_table(count, diagram)
                self.same(table.width, 2 ** count)
                for row in samples.rows_of(count):
                    self.assertEqual(bit_of(table, row), value_of(diagram, row))

    def test_values(self):
        source = random.Random(3)
        for count in range(9):
            for table in some_tables(source, count, 14)[:64]:
                diagram = diagram_of(table)
                for row in samples.rows_of(count):
                    self.same(diagram_value(row, diagram), bit_of(table, row))

    def test_counts_and_least_rows(self):
        source = random.Random(4)
        for count in range(9):
            for table in some_tables(source, count):
                diagram = diagram_of(table)
                rows = [row for row in samples.rows_of(count) if bit_of(table, row)]
                self.same(count_ones(count, diagram), len(rows))
                self.same(least_row(count, diagram), rows[0] if rows else None)
        self.same(least_row(0, ONE), ())
        self.same(least_row(0, ZERO), None)
        self.same(least_row(8, ZERO), None)
        self.same(least_row(8, ONE), (0,) * 8)
        self.same(least_row(4, AND), (1, 1, 0, 0))
        self.same(count_ones(8, ONE), 256)

    def test_errors(self):
        for size in (0, 3, 5, 12, 255):
            self.fails(BadTable(size), diagram_of, Word(size, 0))
        for call in (diagram_table, count_ones, least_row):
            for count in WRONG_COUNTS:
                self.fails(BadIndex(count), call, count, (9, ()))
                self.fails(BadIndex(count), call, count, ZERO)
            self.fails(BadDiagram((9, ())), call, 3, (9, ()))
            self.fails(BadDiagram(AND), call, 1, AND)

    def test_errors_of_values(self):
        for row in ((0,) * 9, (2,), (0, -1), (0,) * 8 + (2,), (3,) * 9):
            self.fails(BadRow(row), diagram_value, row, (9, ()))
            self.fails(BadRow(row), diagram_value, row, ZERO)
        self.fails(BadDiagram(AND), diagram_value, (1,), AND)
        self.fails(BadDiagram((9, ())), diagram_value, (), (9, ()))
        self.same(diagram_value((1, 1, 0), AND), 1)


class CombineTest(CheckCase):
    def test_all_ops(self):
        source = random.Random(5)
        for count in range(9):
            tables = some_tables(source, count, 16)
            for _ in range(60):
                left, right = source.choice(tables), source.choice(tables)
                first, second = diagram_of(left), diagram_of(right)
                for op, due in (("and", left & right), ("or", left | right), ("xor", left ^ right)):
                    self.same(combine(count, op, first, second), diagram_of(due))

    def test_diagrams_of_fewer_inputs(self):
        self.same(combine(5, "and", (2, ((0, 0, 1),)), (2, ((1, 0, 1),))), AND)
        self.same(combine(5, "xor", (2, ((0, 0, 1),)), (2, ((1, 0, 1),))), XOR)
        self.same(combine(5, "xor", XOR, XOR), ZERO)
        self.same(combine(0, "or", ZERO, ONE), ONE)

    def test_errors(self):
        for count in WRONG_COUNTS:
            self.fails(BadIndex(count), combine, count, "and", (9, ()), (8, ()))
        self.fails(BadDiagram((9, ())), combine, 2, "or", (9, ()), (8, ()))
        self.fails(BadDiagram((9, ())), combine, 2, "or", (9, ()), AND)
        self.fails(BadDiagram((8, ())), combine, 2, "or", AND, (8, ()))
        self.fails(BadDiagram(AND), combine, 1, "xor", ONE, AND)


class RestrictTest(CheckCase):
    def test_each_index_and_bit(self):
        source = random.Random(6)
        for count in range(9):
            for table in some_tables(source, count, 14)[:100]:
                diagram = diagram_of(table)
                for index in range(count):
                    for bit in (0, 1):
                        due = [bit_of(table, row[:index] + (bit,) + row[index + 1:])
                               for row in samples.rows_of(count)]
                        found = restrict(count, diagram, index, bit)
                        self.same(found, diagram_of(Word.from_row(tuple(due))))

    def test_errors(self):
        for count in WRONG_COUNTS:
            self.fails(BadIndex(count), restrict, count, (9, ()), 77, 0)
        self.fails(BadDiagram((9, ())), restrict, 2, (9, ()), 77, 0)
        for index in (-1, 2, 3, 10 ** 99):
            self.fails(BadIndex(index), restrict, 2, AND, index, 0)
        self.fails(BadIndex(0), restrict, 0, ONE, 0, 1)
        self.same(restrict(2, AND, 1, 1), (2, ((0, 0, 1),)))
        self.same(restrict(3, AND, 2, 1), AND)


def plain_canonical(net, name):
    """The canonical net, by the diagrams of the roots: made in the words of point 30."""
    inputs, gates, regs, outputs = net
    joint = [*inputs, *(reg[0] for reg in regs)]
    driven = [wire for wire in outputs if wire in [gate[0] for gate in gates]]
    roots = driven + [reg[2] for reg in regs]
    numbers, nodes, root_numbers = {}, [], []
    for root in roots:
        bits = tuple(samples.plain_values(net, row, state)[root]
                     for row, state in samples.joint_rows(net))
        number, own = diagram_of(Word.from_row(bits))
        real = {0: 0, 1: 1}
        for at, (index, low, high) in enumerate(own, start=2):
            node = (index, real[low], real[high])
            if node not in numbers:
                numbers[node] = len(nodes) + 2
                nodes.append(node)
            real[at] = numbers[node]
        root_numbers.append(real[number])
    used = root_numbers + [part for node in nodes for part in node[1:]]
    made = [(f"{name}.g{bit}", op, ()) for bit, op in ((0, "zero"), (1, "one")) if bit in used]
    made += [(f"{name}.g{at}", "mux", (joint[index], f"{name}.g{low}", f"{name}.g{high}"))
             for at, (index, low, high) in enumerate(nodes, start=2)]
    made += [(wire, "buf", (f"{name}.g{number}",)) for wire, number in zip(driven, root_numbers)]
    made_regs = tuple((reg[0], reg[1], f"{name}.g{number}")
                      for reg, number in zip(regs, root_numbers[len(driven):]))
    return inputs, tuple(made), made_regs, outputs


class CanonicalTest(CheckCase):
    def test_a_net(self):
        net = (("a", "b"), (("x", "and", ("a", "b")), ("y", "xor", ("x", "r"))),
               (("r", 1, "a"), ("s", 0, "y")), ("r", "x", "a", "y"))
        due = (("a", "b"), (
            ("n.g0", "zero", ()), ("n.g1", "one", ()),
            ("n.g2", "mux", ("b", "n.g0", "n.g1")), ("n.g3", "mux", ("a", "n.g0", "n.g2")),
            ("n.g4", "mux", ("r", "n.g0", "n.g1")), ("n.g5", "mux", ("r", "n.g1", "n.g0")),
            ("n.g6", "mux", ("b", "n.g4", "n.g5")), ("n.g7", "mux", ("a", "n.g4", "n.g6")),
            ("n.g8", "mux", ("a", "n.g0", "n.g1")),
            ("x", "buf", ("n.g3",)), ("y", "buf", ("n.g7",))),
            (("r", 1, "n.g8"), ("s", 0, "n.g7")), ("r", "x", "a", "y"))
        self.same(canonical_net(net), due)

    def test_constants(self):
        gates = (("x", "zero", ()), ("y", "one", ()), ("z", "not", ("a",)))
        self.same(canonical_net((("a",), gates, (), ("x",))),
                  (("a",), (("n.g0", "zero", ()), ("x", "buf", ("n.g0",))), (), ("x",)))
        self.same(canonical_net((("a",), gates, (), ("y",)), name="k"),
                  (("a",), (("k.g1", "one", ()), ("y", "buf", ("k.g1",))), (), ("y",)))
        self.same(canonical_net((("a",), gates, (("r", 0, "x"), ("s", 1, "y")), ("r",))),
                  (("a",), (("n.g0", "zero", ()), ("n.g1", "one", ())),
                   (("r", 0, "n.g0"), ("s", 1, "n.g1")), ("r",)))
        self.same(canonical_net((("a",), gates, (), ("a",))), (("a",), (), (), ("a",)))
        self.same(canonical_net(((), (), (), ())), ((), (), (), ()))

    def test_sources_that_are_inputs_and_registers(self):
        net = (("a",), (), (("r", 0, "a"), ("s", 1, "r")), ("s", "a"))
        self.same(canonical_net(net), (
            ("a",), (("n.g0", "zero", ()), ("n.g1", "one", ()),
                     ("n.g2", "mux", ("a", "n.g0", "n.g1")), ("n.g3", "mux", ("r", "n.g0", "n.g1"))),
            (("r", 0, "n.g2"), ("s", 1, "n.g3")), ("s", "a")))

    def test_the_same_root_twice(self):
        net = (("a",), (("x", "not", ("a",)), ("y", "not", ("a",))), (("r", 0, "x"),), ("y", "x"))
        self.same(canonical_net(net), (
            ("a",), (("n.g0", "zero", ()), ("n.g1", "one", ()),
                     ("n.g2", "mux", ("a", "n.g1", "n.g0")),
                     ("y", "buf", ("n.g2",)), ("x", "buf", ("n.g2",))),
            (("r", 0, "n.g2"),), ("y", "x")))

    def test_many_nets(self):
        source = random.Random(7)
        for _ in range(150):
            inputs = source.randrange(5)
            net = samples.random_net(source, inputs, source.randrange(10), source.randrange(9 - inputs)
                                     if inputs > 2 else source.randrange(4), outputs=5)
            before = copy.deepcopy(net)
            found = canonical_net(net, name="k")
            self.same(found, plain_canonical(net, "k"))
            self.same(net, before)
            self.same(net_fault(found), None)
            self.same(difference(net, found), None)
            # Equal functions give equal canonical nets.
            self.same(canonical_net(found, name="m"), canonical_net(net, name="m"))

    def test_names(self):
        gates = (("n", "not", ("a",)), ("n.g3", "not", ("a",)))
        # A name that only a gate has, which is no output.
        found = canonical_net((("a",), gates, (), ()))
        self.same(found, (("a",), (), (), ()))
        for net in ((("n",), (), (), ()), (("n.a",), (), (), ()), (("a",), gates, (), ("n",)),
                    (("a",), gates, (), ("n.g3",)), ((), (), (("n", 0, "n"),), ()),
                    (("a", "n.g3.b"), (), (), ("a",)), (("a",), (), (("n.q", 0, "a"),), ("a",))):
            self.fails(NameTaken("n"), canonical_net, net)
            self.fails(NameTaken("n"), canonical_net, net, name="n")
            self.same(net_fault(canonical_net(net, name="nn")), None)
        self.same(canonical_net((("nn", "m.n"), (), (), ("nn",))), (("nn", "m.n"), (), (), ("nn",)))

    def test_order_of_errors(self):
        self.fails(BadNet("unknown", "q"), canonical_net, FAULT, name="N")
        self.fails(BadNet("twice", "x"), canonical_net, FAULT_AND_RING, name="N")
        self.fails(BadNet("ring", "x"), canonical_net, RING, name="N")
        self.fails(TooLarge("small", 8), canonical_net, BIG, name="N")
        self.fails(TooLarge("small", 8), canonical_net, BIG, name="i0")
        for name in ("", "N", "n.g", "1", "abcdefghi", "n\n"):
            self.fails(BadName(name), canonical_net, COUNTER, name=name)
        self.fails(NameTaken("up"), canonical_net, COUNTER, name="up")
        self.fails(NameTaken("r1"), canonical_net, COUNTER, name="r1")
        self.fails(NameTaken("carry"), canonical_net, COUNTER, name="carry")
        self.same(net_fault(canonical_net(COUNTER, name="hi")), None)

    def test_many_gates_and_outputs(self):
        net = samples.chain(2000, -1)
        net = net[:3] + (tuple(f"g{at}" for at in range(300)),)
        found = canonical_net(net)
        self.same(len(found[1]), 304)
        self.same(difference(net, found), None)


if __name__ == "__main__":
    unittest.main()

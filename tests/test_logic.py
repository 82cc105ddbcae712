"""logic.py: values, tables and differences (points 13, 15 and 26 to 28)."""

import copy
import random
import unittest

import samples
from checks import CheckCase
from samples import BIG, COUNTER, EMPTY, FAULT, FAULT_AND_RING, RING
from wirewatch.errors import BadNet, BadRow, Mismatch, TooLarge, UnknownWire
from wirewatch.logic import (difference, evaluate, is_difference, next_state, output_row,
                             wire_table)
from wirewatch.words import Word

VALUED = (evaluate, next_state, output_row)
WRONG_ROWS = ((), (2,), (-1,), (0, 0), (0, 1, 0), (10 ** 99,))
NO_FIT = (("a", "b"), (), (("r", 1, "a"),), ("a", "b"))


class ValuesTest(CheckCase):
    def check(self, net, row, state):
        self.same(evaluate(net, row, state), samples.plain_values(net, row, state))
        self.same(next_state(net, row, state), samples.plain_next(net, row, state))
        self.same(output_row(net, row, state), samples.plain_outputs(net, row, state))

    def test_each_op_at_each_row(self):
        for op, count in samples.COUNTS.items():
            names = ("a", "b", "c")[:count]
            net = (names, (("x", op, names),), (("r", 0, "x"),), ("x",))
            for row in samples.rows_of(count):
                bit = samples.OPS[op](*row)
                self.same(evaluate(net, row, (0,)), {**dict(zip(names, row)), "r": 0, "x": bit})
                self.same(next_state(net, row, (1,)), (bit,))
                self.same(output_row(net, row, (0,)), (bit,))

    def test_a_counter(self):
        self.same(evaluate(COUNTER, (1,), (1, 0)),
                  {"up": 1, "r0": 1, "r1": 0, "carry": 1, "lo": 0, "hi": 1})
        self.same(next_state(COUNTER, (1,), (1, 0)), (0, 1))
        self.same(next_state(COUNTER, (0,), (1, 1)), (1, 1))
        self.same(output_row(COUNTER, (1,), (1, 0)), (0, 1, 1, 1))

    def test_the_default_state(self):
        net = (("a",), (("x", "not", ("a",)),), (), ("x", "a"))
        self.same(evaluate(net, (1,)), {"a": 1, "x": 0})
        self.same(next_state(net, (1,)), ())
        self.same(output_row(net, (1,)), (0, 1))
        self.same(evaluate(EMPTY, ()), {})
        self.same(next_state(EMPTY, ()), ())
        self.same(output_row(EMPTY, ()), ())
        for call in VALUED:
            self.fails(BadRow(()), call, COUNTER, (1,))
            self.fails(BadRow((2,)), call, COUNTER, (2,))

    def test_many_nets(self):
        source = random.Random(1)
        for _ in range(150):
            net = samples.random_net(source, source.randrange(4), source.randrange(12),
                                     source.randrange(4))
            for row, state in samples.joint_rows(net):
                self.check(net, row, state)

    def test_long_chains(self):
        for step in (1, -1):
            net = samples.chain(2000, step)
            values = evaluate(net, (1,))
            self.same([values[f"g{at}"] for at in range(2000)], [0, 1] * 1000)
            self.same(output_row(net, (0,)), (0,))

    def test_wide_nets(self):
        net = samples.wide_net()
        row = tuple(at % 3 % 2 for at in range(300))
        state = (1,) * 150
        values = {**dict(zip(net[0], row)), **{reg[0]: 1 for reg in net[2]}}
        last = 1
        for at in range(2000):
            last ^= row[at % 300]
            values[f"g{at}"] = last
        self.same(evaluate(net, row, state), values)
        self.same(next_state(net, row, state), tuple(values[f"g{1999 - at}"] for at in range(150)))
        self.same(output_row(net, row, state), tuple(values[f"g{at}"] for at in range(300)))
        self.fails(BadRow(row[:-1] + (2,)), evaluate, net, row[:-1] + (2,), state)
        self.fails(BadRow(state + (0,)), evaluate, net, row, state + (0,))

    def test_order_of_errors(self):
        for call in VALUED:
            self.fails(BadNet("unknown", "q"), call, FAULT, (2,), (2,))
            self.fails(BadNet("twice", "x"), call, FAULT_AND_RING, (0,), (0,))
            self.fails(BadNet("ring", "x"), call, RING, (2,), (2,))
            for row in WRONG_ROWS:
                self.fails(BadRow(row), call, COUNTER, row, (0, 0))
                self.fails(BadRow(row), call, COUNTER, row, (0, 0, 0))
            for state in ((), (0,), (0, 2), (-1, 0), (0, 0, 0)):
                self.fails(BadRow(state), call, COUNTER, (0,), state)
                self.fails(BadRow((5,)), call, COUNTER, (5,), state)
            self.fails(BadRow((0,)), call, EMPTY, (0,))
            self.fails(BadRow((0,)), call, EMPTY, (), (0,))

    def test_asked_twice(self):
        before = copy.deepcopy(COUNTER)
        first = evaluate(COUNTER, (1,), (0, 1))
        due = dict(first)
        first["up"] = 7
        del first["hi"]
        self.same(evaluate(COUNTER, (1,), (0, 1)), due)
        self.same(COUNTER, before)


class TableTest(CheckCase):
    def test_tables(self):
        self.same(wire_table(COUNTER, "up"), Word(8, 0b10101010))
        self.same(wire_table(COUNTER, "r0"), Word(8, 0b11001100))
        self.same(wire_table(COUNTER, "r1"), Word(8, 0b11110000))
        self.same(wire_table(COUNTER, "carry"), Word(8, 0b10001000))
        self.same(wire_table(COUNTER, "hi"), Word(8, 0b01111000))
        self.same(wire_table(((), (("x", "one", ()), ("y", "zero", ())), (), ()), "x"), Word(1, 1))
        self.same(wire_table(((), (("x", "one", ()), ("y", "zero", ())), (), ()), "y"), Word(1, 0))

    def test_each_number_of_inputs(self):
        source = random.Random(2)
        for count in range(9):
            for regs in range(count + 1):
                net = samples.random_net(source, count - regs, 8, regs)
                due = {wire: 0 for wire in samples.wires_of(net)}
                for number, (row, state) in enumerate(samples.joint_rows(net)):
                    for wire, bit in samples.plain_values(net, row, state).items():
                        due[wire] |= bit << number
                for wire in due:
                    self.same(wire_table(net, wire), Word(2 ** count, due[wire]))

    def test_order_of_errors(self):
        self.fails(BadNet("unknown", "q"), wire_table, FAULT, "z")
        self.fails(BadNet("twice", "x"), wire_table, FAULT_AND_RING, "z")
        self.fails(BadNet("ring", "x"), wire_table, RING, "z")
        self.fails(TooLarge("small", 8), wire_table, BIG, "z")
        self.fails(TooLarge("small", 8), wire_table, BIG, "r")
        ring = (BIG[0] + ("a",), RING[1], BIG[2], ("x",))
        self.fails(BadNet("ring", "x"), wire_table, ring, "r")
        for wire in ("z", "", "A", "up.", "UP", "a b", "\n", "u"):
            self.fails(UnknownWire(wire), wire_table, COUNTER, wire)
        self.same(wire_table((BIG[0][:-1], BIG[1], BIG[2], ()), "i0").width, 256)


def plain_difference(first, second):
    for row, state in samples.joint_rows(first):
        if (samples.plain_outputs(first, row, state) != samples.plain_outputs(second, row, state)
                or samples.plain_next(first, row, state) != samples.plain_next(second, row, state)):
            return row, state
    return None


def with_parts(net, gates=None, sources=None, outputs=None):
    """The net with other gates, other sources or other outputs."""
    regs = net[2] if sources is None else tuple(
        (reg, first, source) for (reg, first, _), source in zip(net[2], sources))
    return net[0], gates or net[1], regs, net[3] if outputs is None else outputs


BASE = (("a", "b"), (("x", "and", ("a", "b")), ("y", "or", ("x", "r"))), (("r", 0, "y"), ("s", 1, "a")),
        ("y", "s"))


class DifferenceTest(CheckCase):
    def check(self, first, second, due):
        self.same(difference(first, second), due)
        self.same(difference(second, first), due)
        for row, state in samples.joint_rows(first):
            differs = plain_difference_at(first, second, row, state)
            self.same(is_difference(first, second, row, state), differs)
            self.same(is_difference(second, first, row, state), differs)

    def test_equal_nets(self):
        self.check(BASE, BASE, None)
        self.check(EMPTY, EMPTY, None)
        other = with_parts(BASE, gates=(("q", "or", ("r", "p")), ("p", "and", ("b", "a"))),
                           sources=("q", "a"), outputs=("q", "s"))
        self.check(BASE, other, None)

    def test_the_last_joint_row_only(self):
        first = (("a", "b"), (("x", "and", ("a", "b")), ("y", "and", ("x", "r"))), (("r", 0, "r"),), ("y",))
        second = with_parts(first, gates=(("y", "zero", ()),))
        self.check(first, second, ((1, 1), (1,)))

    def test_an_output_only(self):
        self.check(BASE, with_parts(BASE, outputs=("y", "r")), ((0, 0), (1, 0)))
        # Outputs are compared by place.
        self.check(BASE, with_parts(BASE, outputs=("s", "y")), ((1, 1), (0, 0)))

    def test_a_next_state_only(self):
        self.check(BASE, with_parts(BASE, sources=("y", "b")), ((1, 0), (0, 0)))
        self.check(BASE, with_parts(BASE, sources=("a", "y")), ((1, 0), (0, 0)))
        self.check(BASE, with_parts(BASE, sources=("x", "a")), ((0, 0), (1, 0)))

    def test_constants(self):
        zero = ((), (("x", "zero", ()),), (), ("x",))
        one = ((), (("y", "one", ()),), (), ("y",))
        self.check(zero, one, ((), ()))

    def test_many_nets(self):
        source = random.Random(4)
        found = set()
        for _ in range(250):
            size = source.randrange(4), source.randrange(1, 7), source.randrange(3)
            first = samples.random_net(source, *size, outputs=1)
            second = samples.random_net(source, *size, outputs=1)
            second = (second[0], second[1], tuple(
                (wire, other, source_wire) for (wire, other, _), (_, _, source_wire)
                in zip(first[2], second[2])), second[3])
            due = plain_difference(first, second)
            self.check(first, second, due)
            found.add(due is None)
        self.assertEqual(found, {True, False})

    def test_eight_wires(self):
        names = tuple(f"i{at}" for at in range(8))
        gates = [("x0", "buf", ("i0",))]
        gates += [(f"x{at}", "and", (f"x{at - 1}", f"i{at}")) for at in range(1, 8)]
        first = (names, tuple(gates), (), ("x7",))
        second = (names, (("x7", "zero", ()),), (), ("x7",))
        self.same(difference(first, second), ((1,) * 8, ()))

    def test_nets_that_are_not_small(self):
        first = samples.wide_net()
        second = first[:3] + (("g1", "g0") + first[3][2:],)
        row = (0, 1) + (0,) * 298
        state = (0,) * 150
        self.same(is_difference(first, second, row, state), True)
        self.same(is_difference(first, first, row, state), False)
        self.same(is_difference(first, second, (0,) * 300, state), False)
        self.fails(TooLarge("small", 8), difference, first, first)

    def test_nets_that_do_not_fit(self):
        small = (("a",), (), (("r", 0, "a"),), ("a",))
        for other, what in (
                ((("b",), (), (("r", 0, "b"),), ("b",)), "inputs"),
                ((("a", "b"), (), (("r", 0, "a"),), ("a",)), "inputs"),
                (((), (("a", "zero", ()),), (("r", 0, "a"),), ("a",)), "inputs"),
                ((("a",), (), (("s", 0, "a"),), ("a",)), "regs"),
                ((("a",), (), (("r", 1, "a"),), ("a",)), "regs"),
                ((("a",), (), (), ("a",)), "regs"),
                ((("a",), (), (("r", 0, "a"), ("s", 0, "a")), ("a",)), "regs"),
                ((("a",), (), (("r", 0, "a"),), ()), "outputs"),
                ((("a",), (), (("r", 0, "a"),), ("a", "r")), "outputs"),
                # Two and three of them at once.
                ((("b",), (), (("s", 0, "b"),), ("b",)), "inputs"),
                ((("b",), (), (("r", 0, "b"),), ()), "inputs"),
                ((("a",), (), (("s", 0, "a"),), ()), "regs"),
                (NO_FIT, "inputs")):
            self.fails(Mismatch(what), difference, small, other)
            self.fails(Mismatch(what), difference, other, small)
            self.fails(Mismatch(what), is_difference, small, other, (0,), (0,))
        twice = (("a", "b"), (), (("r", 0, "a"), ("s", 0, "a")), ())
        self.fails(Mismatch("inputs"), difference, twice, (("b", "a"),) + twice[1:])
        swapped = twice[:2] + (twice[2][::-1], ())
        self.fails(Mismatch("regs"), difference, twice, swapped)

    def test_order_of_errors(self):
        error = BadNet("unknown", "q")
        self.fails(error, difference, FAULT, RING)
        self.fails(BadNet("ring", "x"), difference, RING, FAULT)
        self.fails(TooLarge("small", 8), difference, BIG, FAULT)
        self.fails(error, difference, FAULT, BIG)
        self.fails(error, difference, NO_FIT, FAULT)
        self.fails(TooLarge("small", 8), difference, NO_FIT, BIG)
        self.fails(error, is_difference, FAULT, RING, (3,), (3,))
        self.fails(BadNet("ring", "x"), is_difference, RING, FAULT, (3,), (3,))
        self.fails(error, is_difference, NO_FIT, FAULT, (3,), (3,))
        # The lengths that are due are those of the first net, and they come before Mismatch.
        for row in ((), (0,), (0, 2), (0, 0, 0)):
            self.fails(BadRow(row), is_difference, NO_FIT, BIG, row, (5,))
        for state in ((), (2,), (0, 0), (0, 0, 0)):
            self.fails(BadRow(state), is_difference, NO_FIT, BIG, (0, 0), state)
        self.fails(Mismatch("inputs"), is_difference, NO_FIT, BIG, (0, 0), (0,))
        self.fails(Mismatch("inputs"), is_difference, BIG, NO_FIT, (0,) * 6, (0,) * 3)


def plain_difference_at(first, second, row, state):
    return (samples.plain_outputs(first, row, state) != samples.plain_outputs(second, row, state)
            or samples.plain_next(first, row, state) != samples.plain_next(second, row, state))


if __name__ == "__main__":
    unittest.main()

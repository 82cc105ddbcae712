"""nets.py: names, wires, gates, nets (points 11 to 15)."""

import itertools
import string
import unittest

from checks import CheckCase
from wirewatch.errors import BadName, BadNet, BadRow, UnknownWire
from wirewatch.nets import (check_net, gate_value, is_name, is_taken, is_wire, net_fault, users,
                            wires, with_prefix)

NO_NAMES = ("", "A", "1", "1a", "aB", "a_b", "a b", " a", "a ", "a.", ".a", "a.b", "a\n", "\n",
            "abcdefghi", "a-", "-a", "_a", "a" * 4000, "aZ", "a{", "`a", "a/", "a:", "#", "b!")
NO_WIRES = ("", ".", "..", ".a", "a.", "a..b", "a.b.", ".a.b", "a. b", "a b", "a.1", "1.a",
            "A.b", "a.B", "abcdefghi", "a.abcdefghi", "abcdefghi.a", "a.b\n", "a\n.b", "a._",
            "a" * 4000)

# Inputs, gates, registers and outputs, with a chain and a register that reads itself.
GOOD = (
    ("a", "b"),
    (("x", "and", ("a", "b")), ("y", "mux", ("x", "a", "r")), ("z", "xor", ("x", "x"))),
    (("r", 0, "y"), ("s", 1, "s"), ("u1.q", 0, "x")),
    ("y", "a", "r"),
)
EMPTY = ((), (), (), ())
RING = (("a",), (("x", "and", ("y", "a")), ("y", "not", ("x",)), ("z", "buf", ("z",))), (), ("x",))

VALUES = {
    "zero": lambda: 0,
    "one": lambda: 1,
    "buf": lambda a: a,
    "not": lambda a: 1 - a,
    "and": lambda a, b: a * b,
    "or": lambda a, b: max(a, b),
    "xor": lambda a, b: (a + b) % 2,
    "mux": lambda s, a, b: b if s == 1 else a,
}
COUNTS = {"zero": 0, "one": 0, "buf": 1, "not": 1, "and": 2, "or": 2, "xor": 2, "mux": 3}


class NamesTest(CheckCase):
    def test_names(self):
        for text in ("a", "z", "a1", "z9", "a0", "abcdefgh", "a2345678", "in", "end", "gate"):
            self.same(is_name(text), True)
        for text in NO_NAMES:
            self.same(is_name(text), False)

    def test_each_character(self):
        for sign in string.printable:
            if sign in string.ascii_lowercase:
                self.same(is_name(sign), True)
            else:
                self.same(is_name(sign), False)
            good = sign in string.ascii_lowercase or sign in string.digits
            self.same(is_name("a" + sign), good)
            self.same(is_name("a" + sign + "a"), good)
            self.same(is_wire("a" + sign + "a"), good or sign == ".")

    def test_lengths(self):
        for length in range(12):
            self.same(is_name("b" * length), 1 <= length <= 8)
            self.same(is_wire("c." + "b" * length), 1 <= length <= 8)
            self.same(is_wire("b" * length + ".c"), 1 <= length <= 8)

    def test_wires(self):
        for text in ("a", "a.b", "u1.sum", "a.b.c.d", "abcdefgh.abcdefgh", "a" + ".b" * 500):
            self.same(is_wire(text), True)
        for text in NO_WIRES:
            self.same(is_wire(text), False)


class GateValueTest(CheckCase):
    def test_each_op_at_each_row(self):
        for op, count in COUNTS.items():
            for bits in itertools.product((0, 1), repeat=count):
                self.same(gate_value(op, bits), VALUES[op](*bits))

    def test_wrong_rows(self):
        for op, count in COUNTS.items():
            rows = [(0,) * length for length in range(6) if length != count]
            rows += [(1,) * 300]
            for place in range(count):
                for wrong in (2, -1, 10 ** 99):
                    row = [0] * count
                    row[place] = wrong
                    rows.append(tuple(row))
            for row in rows:
                self.fails(BadRow(row), gate_value, op, row)


def with_part(place, value):
    parts = list(GOOD)
    parts[place] = value
    return tuple(parts)


def with_gate(gate):
    return with_part(1, (GOOD[1][0], gate) + GOOD[1][2:])


def with_reg(reg):
    return with_part(2, (reg,) + GOOD[2][1:])


# One net for each way in which it can be wrong, with the fault that is due.
FAULTS = [
    ((("a", "B"), (), (), ()), ("name", "B")),
    ((("",), (), (), ()), ("name", "")),
    ((("a", "a"), (), (), ()), ("twice", "a")),
    ((("a..b",), (), (), ()), ("name", "a..b")),
    (((), (("x.", "one", ()),), (), ()), ("name", "x.")),
    (((), (("x", "one", ()), ("x", "one", ())), (), ()), ("twice", "x")),
    ((("x",), (("x", "one", ()),), (), ()), ("twice", "x")),
    ((("x",), (), (("x", 0, "x"),), ()), ("twice", "x")),
    (((), (("x", "one", ()),), (("x", 0, "x"),), ()), ("twice", "x")),
    (((), (), (("1", 0, "1"),), ()), ("name", "1")),
    (((), (), (("r", 0, "r"), ("r", 0, "r")), ()), ("twice", "r")),
    (with_gate(("y", "nand", ("a", "b"))), ("op", "y")),
    (with_gate(("y", "", ())), ("op", "y")),
    (with_gate(("y", "AND", ("a", "b"))), ("op", "y")),
    (with_gate(("y", "zero", ("a",))), ("count", "y")),
    (with_gate(("y", "one", ("a",))), ("count", "y")),
    (with_gate(("y", "buf", ())), ("count", "y")),
    (with_gate(("y", "not", ("a", "b"))), ("count", "y")),
    (with_gate(("y", "and", ("a",))), ("count", "y")),
    (with_gate(("y", "or", ("a", "b", "a"))), ("count", "y")),
    (with_gate(("y", "xor", ())), ("count", "y")),
    (with_gate(("y", "mux", ("a", "b"))), ("count", "y")),
    (with_gate(("y", "mux", ("a", "b", "a", "b"))), ("count", "y")),
    (with_gate(("y", "and", ("a", "q"))), ("unknown", "q")),
    (with_gate(("y", "and", ("q", "p"))), ("unknown", "q")),
    (with_gate(("y", "buf", ("",))), ("unknown", "")),
    (with_reg(("r", 2, "a")), ("first", "r")),
    (with_reg(("r", -1, "a")), ("first", "r")),
    (with_reg(("r", 10 ** 99, "a")), ("first", "r")),
    (with_reg(("r", 0, "q")), ("unknown", "q")),
    (with_reg(("r", 1, "A b")), ("unknown", "A b")),
    (with_part(3, ("a", "q")), ("unknown", "q")),
    (with_part(3, ("a", "x", "a")), ("twice", "a")),
    (with_part(3, ("a", "!")), ("unknown", "!")),
]

# Two faults at once; the first one of the pair is due.
PAIRS = [
    ((("A", "a", "a"), (), (), ()), ("name", "A")),
    ((("a", "a", "A"), (), (), ()), ("twice", "a")),
    ((("A", "A"), (), (), ()), ("name", "A")),
    ((("a",), (("A", "one", ()), ("a", "one", ())), (), ()), ("name", "A")),
    ((("a",), (("a", "one", ()), ("A", "one", ())), (), ()), ("twice", "a")),
    # A wrong name of a register comes before a wrong op of a gate.
    ((("a",), (("x", "nor", ()),), (("R", 0, "a"),), ()), ("name", "R")),
    ((("a",), (("x", "nor", ()),), (("x", 0, "a"),), ()), ("twice", "x")),
    # One gate: op, count, unknown.
    ((("a",), (("x", "nor", ("q",)),), (), ()), ("op", "x")),
    ((("a",), (("x", "and", ("q",)),), (), ()), ("count", "x")),
    # All three at one gate before the next gate.
    ((("a",), (("x", "buf", ("q",)), ("y", "nor", ())), (), ()), ("unknown", "q")),
    ((("a",), (("y", "nor", ()), ("x", "buf", ("q",))), (), ()), ("op", "y")),
    ((("a",), (("x", "buf", ()), ("y", "nor", ())), (), ()), ("count", "x")),
    ((("a",), (("y", "nor", ()), ("x", "buf", ())), (), ()), ("op", "y")),
    ((("a",), (("x", "buf", ("q",)), ("y", "buf", ())), (), ()), ("unknown", "q")),
    # Gates before registers.
    ((("a",), (("x", "buf", ("q",)),), (("r", 2, "a"),), ()), ("unknown", "q")),
    ((("a",), (("x", "nor", ()),), (("r", 0, "q"),), ()), ("op", "x")),
    # One register: first, unknown. Both before the next register.
    ((("a",), (), (("r", 2, "q"),), ()), ("first", "r")),
    ((("a",), (), (("r", 0, "q"), ("s", 2, "a")), ()), ("unknown", "q")),
    ((("a",), (), (("s", 2, "a"), ("r", 0, "q")), ()), ("first", "s")),
    # Registers before outputs.
    ((("a",), (), (("r", 2, "a"),), ("q",)), ("first", "r")),
    ((("a",), (), (("r", 0, "p"),), ("q",)), ("unknown", "p")),
    ((("a",), (("x", "buf", ("p",)),), (), ("q",)), ("unknown", "p")),
    ((("a", "a"), (), (), ("q",)), ("twice", "a")),
    # Outputs one after another.
    ((("a",), (), (), ("q", "a", "a")), ("unknown", "q")),
    ((("a",), (), (), ("a", "a", "q")), ("twice", "a")),
    ((("a",), (), (), ("q", "q")), ("unknown", "q")),
]


class FaultsTest(CheckCase):
    def test_no_fault(self):
        for net in (GOOD, EMPTY, RING):
            self.same(net_fault(net), None)
            self.same(check_net(net), None)

    def test_each_fault_and_two_at_once(self):
        for net, fault in FAULTS + PAIRS:
            with self.subTest(net):
                self.same(net_fault(net), fault)
                self.fails(BadNet(*fault), check_net, net)
                self.fails(BadNet(*fault), wires, net)
                self.fails(BadNet(*fault), users, net, "nowhere")
                self.fails(BadNet(*fault), is_taken, net, "No Name")
                self.fails(BadNet(*fault), with_prefix, net, "No Name")
                self.fails(BadNet(*fault), is_taken, net, "a")
                self.fails(BadNet(*fault), with_prefix, net, "a")

    def test_forward_reference_is_no_fault(self):
        net = (("a",), (("x", "buf", ("y",)), ("y", "buf", ("r",))), (("r", 0, "x"),), ("r", "x"))
        self.same(net_fault(net), None)

    def test_arguments_are_not_changed(self):
        for net in (GOOD, RING, FAULTS[0][0]):
            before = repr(net)
            net_fault(net)
            self.assertEqual(repr(net), before)


class WiresTest(CheckCase):
    def test_wires(self):
        self.same(wires(GOOD), ("a", "b", "x", "y", "z", "r", "s", "u1.q"))
        self.same(wires(EMPTY), ())
        self.same(wires(RING), ("a", "x", "y", "z"))

    def test_users(self):
        due = {"a": ("x", "y"), "b": ("x",), "x": ("y", "z", "u1.q"), "y": ("r",), "z": (),
               "r": ("y",), "s": ("s",), "u1.q": ()}
        for wire, found in due.items():
            self.same(users(GOOD, wire), found)
        self.same(users(RING, "x"), ("y",))
        self.same(users(RING, "z"), ("z",))
        self.same(users(RING, "a"), ("x",))

    def test_users_each_once(self):
        net = (("a",), (("x", "mux", ("a", "a", "a")),), (("r", 0, "a"), ("s", 0, "a")), ("a",))
        self.same(users(net, "a"), ("x", "r", "s"))

    def test_users_of_an_unknown_wire(self):
        for wire in ("", "q", "A", "u1", "q.u1", "x.", "a b", "x" * 4000):
            self.fails(UnknownWire(wire), users, GOOD, wire)
            self.fails(UnknownWire(wire), users, EMPTY, wire)


class TakenTest(CheckCase):
    def test_is_taken(self):
        net = (("a", "ab.c", "u1.x.y"), (("g.h", "one", ()),), (("r.q", 0, "a"),), ())
        for name in ("a", "ab", "u1", "g", "r"):
            self.same(is_taken(net, name), True)
        for name in ("b", "c", "x", "y", "h", "q", "u", "abc", "ab1", "u12", "aa"):
            self.same(is_taken(net, name), False)
        self.same(is_taken(RING, "z"), True)
        self.same(is_taken(EMPTY, "a"), False)

    def test_wrong_names(self):
        for name in NO_NAMES:
            self.fails(BadName(name), is_taken, GOOD, name)
            self.fails(BadName(name), with_prefix, GOOD, name)
        for name in ("u1.q", "a.b"):
            self.fails(BadName(name), is_taken, GOOD, name)
            self.fails(BadName(name), with_prefix, GOOD, name)

    def test_with_prefix(self):
        due = (
            ("p.a", "p.b"),
            (("p.x", "and", ("p.a", "p.b")), ("p.y", "mux", ("p.x", "p.a", "p.r")),
             ("p.z", "xor", ("p.x", "p.x"))),
            (("p.r", 0, "p.y"), ("p.s", 1, "p.s"), ("p.u1.q", 0, "p.x")),
            ("p.y", "p.a", "p.r"),
        )
        self.same(with_prefix(GOOD, "p"), due)
        self.same(with_prefix(EMPTY, "p"), EMPTY)
        self.same(net_fault(with_prefix(RING, "abcdefgh")), None)
        self.same(wires(with_prefix(GOOD, "a"))[:2], ("a.a", "a.b"))
        self.same(with_prefix(with_prefix(GOOD, "q"), "p")[3], ("p.q.y", "p.q.a", "p.q.r"))


if __name__ == "__main__":
    unittest.main()

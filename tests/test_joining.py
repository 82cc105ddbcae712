"""joining.py: joining, cones, cutting and tying (points 14, 15, 24 and 39 to 41)."""

import copy
import random
import unittest

import samples
from checks import CheckCase
from samples import COUNTER, EMPTY, FAULT, FAULT_AND_RING, RING
from wirewatch.errors import BadMove, BadName, BadNet, NameTaken, UnknownWire
from wirewatch.joining import cone, cut, join_nets, tie, with_outputs
from wirewatch.nets import with_prefix
from wirewatch.order import check_sound

WRONG_NETS = ((FAULT, BadNet("unknown", "q")), (RING, BadNet("ring", "x")),
              (FAULT_AND_RING, BadNet("twice", "x")))
NO_WIRES = ("", "z", "A", "up.", "u", "a b", "\n")


def random_nets(seed, many):
    source = random.Random(seed)
    for _ in range(many):
        yield source, samples.random_net(source, source.randrange(4), source.randrange(8),
                                         source.randrange(4))


class JoinTest(CheckCase):
    def test_inputs_that_are_wires_of_the_first_net(self):
        second = (("r1", "new", "up", "carry"), (("p", "xor", ("r1", "carry")), ("q", "or", ("p", "new"))),
                  (("s", 1, "up"),), ("q", "s"))
        self.same(join_nets(COUNTER, second), (
            ("up", "new"), COUNTER[1] + second[1], COUNTER[2] + second[2], COUNTER[3] + ("q", "s")))

    def test_no_common_wires(self):
        second = with_prefix(COUNTER, "k")
        self.same(join_nets(COUNTER, second), tuple(one + other for one, other in zip(COUNTER, second)))
        self.same(join_nets(COUNTER, EMPTY), COUNTER)
        self.same(join_nets(EMPTY, COUNTER), COUNTER)
        self.same(join_nets(EMPTY, EMPTY), EMPTY)

    def test_outputs(self):
        second = (("b", "up", "r0", "lo"), (), (), ("lo", "r0", "b", "up"))
        self.same(join_nets(COUNTER, second), (
            ("up", "b"), COUNTER[1], COUNTER[2], ("r1", "r0", "carry", "up", "lo", "b")))

    def test_runs(self):
        for source, first in random_nets(1, 100):
            _, gates, regs, outputs = samples.random_net(source, 2, 5, 2)
            # The wires of the second net have other names, its inputs may be wires of the first.
            known = samples.wires_of(first) + ["n0", "n1"]
            names = {wire: "k." + wire for wire in ["r0", "r1", *(gate[0] for gate in gates)]}
            names.update(zip(("i0", "i1"), source.sample(known, 2)))
            second = ((names["i0"], names["i1"]),
                      tuple((names[wire], op, tuple(names[arg] for arg in args)) for wire, op, args in gates),
                      tuple((names[wire], bit, names[wanted]) for wire, bit, wanted in regs),
                      tuple(names[wire] for wire in outputs))
            before = copy.deepcopy((first, second))
            found = join_nets(first, second)
            self.same(check_sound(found), None)
            self.same((first, second), before)
            self.same(found[0], first[0] + tuple(wire for wire in second[0]
                                                 if wire not in samples.wires_of(first)))
            stimulus = samples.random_stimulus(source, found, 5)
            ticks = samples.plain_run(found, stimulus)[0]
            alone = samples.plain_run(first, tuple(row[:len(first[0])] for row in stimulus))[0]
            fed = samples.plain_run(second, tuple(tuple(values[wire] for wire in second[0])
                                                  for values in ticks))[0]
            for values, one, other in zip(ticks, alone, fed):
                self.same(values, {**one, **other})

    def test_taken_wires(self):
        free = (("b",), (("p", "not", ("b",)), ("q", "not", ("b",))), (("s", 0, "b"), ("t", 0, "b")), ())
        for at, new in ((0, "up"), (1, "r0"), (0, "lo"), (1, "hi")):
            gates = list(free[1])
            gates[at] = (new, "not", ("b",))
            self.fails(NameTaken(new), join_nets, COUNTER, (free[0], tuple(gates), free[2], ()))
        for at, new in ((0, "up"), (1, "r0"), (0, "carry")):
            regs = list(free[2])
            regs[at] = (new, 0, "b")
            self.fails(NameTaken(new), join_nets, COUNTER, (free[0], free[1], tuple(regs), ()))
        # The gates come before the registers, each in their order.
        both = (("b",), (("p", "not", ("b",)), ("lo", "not", ("b",)), ("carry", "not", ("b",))),
                (("up", 0, "b"),), ())
        self.fails(NameTaken("lo"), join_nets, COUNTER, both)
        both = (("b",), (), (("s", 0, "b"), ("r1", 0, "b"), ("r0", 0, "b")), ())
        self.fails(NameTaken("r1"), join_nets, COUNTER, both)
        # A name that only begins alike is not declared.
        self.same(join_nets(COUNTER, (("b",), (("up.a", "not", ("b",)),), (), ()))[0], ("up", "b"))

    def test_errors(self):
        for net, error in WRONG_NETS:
            self.fails(error, join_nets, net, COUNTER)
            self.fails(error, join_nets, COUNTER, net)
        self.fails(BadNet("unknown", "q"), join_nets, FAULT, RING)
        self.fails(BadNet("ring", "x"), join_nets, RING, FAULT)
        self.fails(NameTaken("hi"), join_nets, COUNTER, COUNTER)


class OutputsTest(CheckCase):
    def test_outputs(self):
        self.same(with_outputs(COUNTER, ("hi", "up", "r0")), COUNTER[:3] + (("hi", "up", "r0"),))
        self.same(with_outputs(COUNTER, ()), COUNTER[:3] + ((),))
        self.same(with_outputs(EMPTY, ()), EMPTY)

    def test_errors(self):
        for call in (with_outputs, cone):
            for net, error in WRONG_NETS:
                self.fails(error, call, net, ("zz",))
            for wire in NO_WIRES:
                self.fails(BadNet("unknown", wire), call, COUNTER, ("hi", wire, "q"))
            self.fails(BadNet("twice", "hi"), call, COUNTER, ("hi", "up", "hi"))
            self.fails(BadNet("twice", "up"), call, COUNTER, ("up", "up", "z"))
            self.fails(BadNet("unknown", "z"), call, COUNTER, ("up", "z", "up"))
            self.fails(BadNet("unknown", "z"), call, COUNTER, ("z", "z"))
            self.fails(BadNet("unknown", ""), call, EMPTY, ("",))


class ConeTest(CheckCase):
    def test_cones(self):
        self.same(cone(COUNTER, ("r1",)), COUNTER[:3] + (("r1",),))
        self.same(cone(COUNTER, ("lo",)), (("up",), COUNTER[1][2:], COUNTER[2][:1], ("lo",)))
        self.same(cone(COUNTER, ("r0",)), (("up",), COUNTER[1][2:], COUNTER[2][:1], ("r0",)))
        self.same(cone(COUNTER, ("carry",)), (("up",), COUNTER[1][1:], COUNTER[2][:1], ("carry",)))
        self.same(cone(COUNTER, ("up",)), (("up",), (), (), ("up",)))
        self.same(cone(COUNTER, ()), (("up",), (), (), ()))
        self.same(cone(COUNTER, ("carry", "hi")), COUNTER[:3] + (("carry", "hi"),))

    def test_through_registers_and_back(self):
        net = (("a", "b"), (("x", "not", ("s",)), ("y", "and", ("r", "b")), ("z", "or", ("x", "y"))),
               (("r", 0, "x"), ("s", 1, "t"), ("t", 0, "s"), ("u", 1, "a"), ("v", 0, "u"), ("w", 0, "w")), ())
        self.same(cone(net, ("r",)), (net[0], net[1][:1], net[2][:3], ("r",)))
        self.same(cone(net, ("y",)), (net[0], net[1][:2], net[2][:3], ("y",)))
        self.same(cone(net, ("v",)), (net[0], (), net[2][3:5], ("v",)))
        self.same(cone(net, ("w",)), (net[0], (), net[2][5:], ("w",)))
        self.same(cone(net, ("v", "x")), (net[0], net[1][:1], net[2][1:5], ("v", "x")))

    def test_many_nets(self):
        for source, net in random_nets(2, 120):
            before = copy.deepcopy(net)
            wires = samples.wires_of(net)
            names = tuple(source.sample(wires, min(len(wires), source.randrange(3))))
            found = cone(net, names)
            below = {wire: () for wire in net[0]}
            below.update({wire: args for wire, _, args in net[1]})
            below.update({wire: (source_wire,) for wire, _, source_wire in net[2]})
            rested = set(names)
            for _ in wires:
                rested |= {part for wire in rested for part in below[wire]}
            self.same(found, (net[0], tuple(gate for gate in net[1] if gate[0] in rested),
                              tuple(reg for reg in net[2] if reg[0] in rested), names))
            self.same(check_sound(found), None)
            self.same(net, before)
            stimulus = samples.random_stimulus(source, net, 4)
            for one, other in zip(samples.plain_run(net, stimulus)[0], samples.plain_run(found, stimulus)[0]):
                for wire, bit in other.items():
                    self.assertEqual(one[wire], bit)

    def test_long_chains(self):
        for step in (1, -1):
            net = samples.chain(300, step)
            self.same(cone(net, ("g299",)), net)
            self.same(len(cone(net, ("g99",))[1]), 100)


class CutTest(CheckCase):
    def test_gates_and_registers(self):
        self.same(cut(COUNTER, "carry", "c"), (
            ("up", "carry"),
            (COUNTER[1][0], ("c", "and", ("up", "r0")), COUNTER[1][2]), COUNTER[2], COUNTER[3]))
        self.same(cut(COUNTER, "r0", "c"), (
            ("up", "r0"), COUNTER[1], (("c", 0, "lo"), COUNTER[2][1]), COUNTER[3]))
        # Without users, as a source, and as a register's own source.
        net = (("a",), (("x", "not", ("a",)), ("y", "not", ("a",))), (("r", 1, "y"), ("s", 0, "s"), ("t", 0, "a")),
               ("a",))
        self.same(cut(net, "x", "n"), (("a", "x"), (("n", "not", ("a",)), net[1][1]), net[2], ("a",)))
        self.same(cut(net, "y", "n"), (("a", "y"), (net[1][0], ("n", "not", ("a",))), net[2], ("a",)))
        self.same(cut(net, "s", "n"), (("a", "s"), net[1], (net[2][0], ("n", 0, "s"), net[2][2]), ("a",)))
        self.same(cut(net, "t", "n"), (("a", "t"), net[1], net[2][:2] + (("n", 0, "a"),), ("a",)))

    def test_runs(self):
        for source, net in random_nets(3, 100):
            for wire in [part[0] for part in net[1] + net[2]]:
                found = cut(net, wire, "n")
                self.same(check_sound(found), None)
                stimulus = samples.random_stimulus(source, net, 4)
                ticks = samples.plain_run(net, stimulus)[0]
                fed = tuple(row + (values[wire],) for row, values in zip(stimulus, ticks))
                for one, other in zip(ticks, samples.plain_run(found, fed)[0]):
                    self.same(other, {**one, "n": one[wire]})

    def test_errors(self):
        for net, error in WRONG_NETS:
            self.fails(error, cut, net, "zz", "A")
        for name in ("", "A", "a.b", "abcdefghi", "n\n"):
            self.fails(BadName(name), cut, COUNTER, "hi", name)
            self.fails(BadName(name), cut, COUNTER, "zz", name)
            self.fails(BadName(name), cut, COUNTER, "up", name)
        for wire in NO_WIRES:
            self.fails(UnknownWire(wire), cut, COUNTER, wire, "n")
            self.fails(UnknownWire(wire), cut, COUNTER, wire, "up")
        self.fails(BadMove("up"), cut, COUNTER, "up", "n")
        self.fails(BadMove("up"), cut, COUNTER, "up", "r0")
        for name in ("up", "hi", "r0", "lo"):
            self.fails(NameTaken(name), cut, COUNTER, "hi", name)
        net = (("a.b",), (("x.y", "not", ("a.b",)),), (), ())
        for name in ("a", "x"):
            self.fails(NameTaken(name), cut, net, "x.y", name)
        self.same(cut(net, "x.y", "y"), (("a.b", "x.y"), (("y", "not", ("a.b",)),), (), ()))


class TieTest(CheckCase):
    NET = (("a", "b", "c"), (("x", "and", ("a", "b")), ("y", "not", ("x",)), ("z", "not", ("c",))),
           (("r", 0, "y"),), ("y", "b"))

    def tied(self, port, wire):
        net = self.NET
        return (tuple(name for name in net[0] if name != port), net[1] + ((port, "buf", (wire,)),),
                net[2], net[3])

    def test_ties(self):
        for port, wire in (("b", "z"), ("b", "r"), ("b", "c"), ("a", "r"), ("c", "y"), ("a", "b")):
            self.same(tie(self.NET, port, wire), self.tied(port, wire))

    def test_rings(self):
        # To itself, and to gates that depend on it. The first gate of the resulting net counts.
        self.fails(BadNet("ring", "a"), tie, self.NET, "a", "a")
        self.fails(BadNet("ring", "x"), tie, self.NET, "a", "x")
        self.fails(BadNet("ring", "x"), tie, self.NET, "b", "y")
        self.fails(BadNet("ring", "z"), tie, self.NET, "c", "z")
        turned = (self.NET[0], self.NET[1][::-1], self.NET[2], self.NET[3])
        self.fails(BadNet("ring", "y"), tie, turned, "b", "y")
        self.fails(BadNet("ring", "x"), tie, turned, "b", "x")

    def test_runs(self):
        rings = 0
        for source, net in random_nets(4, 150):
            for port in net[0]:
                for wire in samples.wires_of(net):
                    due = (tuple(name for name in net[0] if name != port),
                           net[1] + ((port, "buf", (wire,)),), net[2], net[3])
                    try:
                        check_sound(due)
                    except BadNet as error:
                        rings += 1
                        self.fails(BadNet(error.code, error.wire), tie, net, port, wire)
                        continue
                    found = tie(net, port, wire)
                    self.same(found, due)
                    stimulus = samples.random_stimulus(source, found, 3)
                    for values in samples.plain_run(found, stimulus)[0]:
                        self.assertEqual(values[port], values[wire])
        self.assertGreater(rings, 50)

    def test_errors(self):
        for net, error in WRONG_NETS:
            self.fails(error, tie, net, "zz", "zz")
        for wire in NO_WIRES:
            self.fails(UnknownWire(wire), tie, COUNTER, wire, "hi")
            self.fails(UnknownWire(wire), tie, COUNTER, wire, "")
            self.fails(UnknownWire(wire), tie, COUNTER, "up", wire)
            self.fails(BadMove("hi"), tie, COUNTER, "hi", wire)
        self.fails(BadMove("r0"), tie, COUNTER, "r0", "up")
        self.fails(BadMove("hi"), tie, COUNTER, "hi", "hi")


if __name__ == "__main__":
    unittest.main()

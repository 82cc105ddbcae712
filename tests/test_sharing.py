"""Points 25, 27 and 66 to 68, and what the interface says of sharing.py."""

import random
import unittest

from checks import CheckCase
from plain_reach import all_states
from samples import (BIG, COUNTER, EMPTY, FAULT, FAULT_AND_RING, RING, plain_next, plain_run,
                     plain_values, random_net, random_stimulus, joint_rows, rows_of, wires_of)
from wirewatch.errors import BadNet, TooLarge
from wirewatch.order import check_sound
from wirewatch.sharing import (is_register_classes, merge_registers, register_classes,
                               share_gates)

# `r`, `s` and `u` are equal; `t` only begins so; `v` has another first value, `w` copies it.
REGS = (
    ("a", "b"),
    (("g", "and", ("a", "r")), ("h", "and", ("s", "a")), ("n", "not", ("g",))),
    (("r", 0, "g"), ("s", 0, "h"), ("t", 0, "b"), ("u", 0, "g"), ("v", 1, "g"), ("w", 1, "g")),
    ("r", "s", "w", "n"),
)
# `s` follows `r` and the other way round, with an input between them, so both are equal always.
CROSSED = (("a",), (("x", "xor", ("a", "s")), ("y", "xor", ("a", "r"))), (("r", 0, "x"), ("s", 0, "y")), ())
# All three are 0 in each run, but from the even state (1, 1, 1) they part.
PART = (("a",), (("d", "and", ("a", "k")), ("z0", "zero", ())), (("p", 0, "z0"), ("q", 0, "d"), ("k", 0, "k")), ())


def partitions(items):
    """All ways to put the items into classes."""
    if not items:
        yield ()
        return
    for rest in partitions(items[1:]):
        yield ((items[0],),) + rest
        for at in range(len(rest)):
            yield rest[:at] + ((items[0],) + rest[at],) + rest[at + 1:]


def plain_classes(net, classes):
    """Point 66, condition by condition."""
    regs = [reg[0] for reg in net[2]]
    if sorted(wire for group in classes for wire in group) != sorted(regs) or () in classes:
        return False
    firsts = dict(reg[:2] for reg in net[2])
    if any(len({firsts[wire] for wire in group}) > 1 for group in classes):
        return False

    def is_even(state):
        known = dict(zip(regs, state))
        return all(len({known[wire] for wire in group}) == 1 for group in classes)

    return all(is_even(plain_next(net, row, state)) for state in all_states(net) if is_even(state)
               for row in rows_of(len(net[0])))


def alike_net(source):
    """A net in which some registers are likely to be equal."""
    inputs, gates, regs, outputs = random_net(
        source, source.randrange(3), source.randrange(6), source.randrange(1, 5))
    copies = []
    for number, (_, first, made) in enumerate(source.choices(regs, k=source.randrange(3))):
        copies.append((f"c{number}", source.choice((first, first, 1 - first)), made))
    pool = {f"r{at}": f"c{at}" for at in range(len(copies))}
    gates = tuple((wire, op, tuple(source.choice((arg, pool.get(arg, arg))) for arg in args))
                  for wire, op, args in gates)
    return inputs, gates, regs + tuple(copies), outputs


def alike_nets(seed, count):
    source = random.Random(seed)
    for _ in range(count):
        yield source, alike_net(source)


class ClassesTest(CheckCase):
    def test_some(self):
        self.same(register_classes(REGS), (("r", "s", "u"), ("t",), ("v", "w")))
        self.same(register_classes(EMPTY), ())
        self.same(register_classes((("a",), (), (("r", 1, "a"),), ())), (("r",),))
        self.same(register_classes(COUNTER), (("r0",), ("r1",)))
        self.same(register_classes(CROSSED), (("r", "s"),))
        # Equal in each run, but not from each even state.
        self.same(register_classes(PART), (("p",), ("q",), ("k",)))
        other = PART[:2] + ((("p", 0, "z0"), ("q", 0, "d"), ("k", 1, "k")),) + PART[3:]
        self.same(register_classes(other), (("p",), ("q",), ("k",)))

    def test_equal_only_where_reached(self):
        # `p` and `q` are equal from the first state on, as `k` stays 0; the classes of `k` and
        # of both are no classes, as `k` may be 1 at an even state.
        net = (("a",), (("d", "and", ("a", "k")), ("e", "xor", ("a", "d"))),
               (("p", 0, "a"), ("q", 0, "e"), ("k", 0, "k"), ("l", 1, "l")), ())
        for tick in plain_run(net, ((1,), (0,), (1,), (1,)))[0]:
            self.assertEqual(tick["p"], tick["q"])
        self.same(register_classes(net), (("p",), ("q",), ("k",), ("l",)))
        self.same(is_register_classes(net, (("p", "q"), ("k",), ("l",))), False)

    def test_order_of_classes(self):
        net = ((), (("z", "zero", ()), ("o", "one", ())),
               (("d", 1, "z"), ("c", 0, "o"), ("b", 1, "z"), ("a", 0, "o"), ("e", 1, "o")), ())
        self.same(register_classes(net), (("d", "b"), ("c", "a"), ("e",)))

    def test_coarsest(self):
        for source, net in alike_nets(1, 100):
            regs = [reg[0] for reg in net[2]]
            found = register_classes(net)
            right = [classes for classes in partitions(regs) if plain_classes(net, classes)]
            self.assertEqual(len(found), min(len(classes) for classes in right))
            self.assertIn(sorted(map(sorted, found)), [sorted(map(sorted, classes)) for classes in right])
            places = {wire: at for at, group in enumerate(found) for wire in group}
            for classes in right:
                for group in classes:
                    self.assertEqual(len({places[wire] for wire in group}), 1)
            for group in found:
                self.assertEqual(list(group), sorted(group, key=regs.index))
            self.assertEqual([group[0] for group in found], sorted((group[0] for group in found), key=regs.index))

    def test_is_register_classes(self):
        for source, net in alike_nets(2, 60):
            regs = [reg[0] for reg in net[2]]
            for classes in partitions(regs):
                classes = tuple(source.sample(classes, len(classes)))
                self.same(is_register_classes(net, classes), plain_classes(net, classes))

    def test_wrong_classes(self):
        good = (("w", "v"), ("t",), ("s", "u", "r"))
        self.same(is_register_classes(REGS, good), True)
        self.same(is_register_classes(REGS, tuple((reg[0],) for reg in REGS[2])), True)
        self.same(is_register_classes(REGS, (("r", "s"), ("u",), ("t",), ("v",), ("w",))), True)
        for classes in [
                good + ((),), ((),) + good, (), good[:2], good[:2] + (("s", "u"),), good[:2] + (("s", "u", "r", "r"),),
                good + (("t",),), (("w", "v"), ("t", "t"), ("s", "u", "r")), good[:2] + (("s", "u", "r", "q"),),
                good + (("q",),), good + (("g",),), good + (("a",),), good[:2] + (("s", "u", "x"),),
                good + (("",),), (("w", "v"), ("t", "s", "u", "r")), (("w", "v", "t"), ("s", "u", "r")),
                (("w", "v", "t", "s", "u", "r"),)]:
            with self.subTest(classes=classes):
                self.same(is_register_classes(REGS, classes), False)
        self.same(is_register_classes(EMPTY, ()), True)
        self.same(is_register_classes(EMPTY, ((),)), False)
        self.same(is_register_classes(EMPTY, (("r",),)), False)
        # Each of these two classes needs the other one.
        net = (("a",), (("x", "xor", ("r", "p")), ("y", "xor", ("s", "q"))),
               (("r", 0, "p"), ("s", 0, "q"), ("p", 0, "x"), ("q", 0, "y")), ())
        self.same(is_register_classes(net, (("r", "s"), ("p", "q"))), True)
        self.same(is_register_classes(net, (("r", "s"), ("p",), ("q",))), False)


class MergeTest(CheckCase):
    def test_some(self):
        self.same(merge_registers(REGS), (
            ("a", "b"),
            (("g", "and", ("a", "r")), ("h", "and", ("r", "a")), ("n", "not", ("g",)), ("s", "buf", ("r",)),
             ("w", "buf", ("v",))),
            (("r", 0, "g"), ("t", 0, "b"), ("v", 1, "g")),
            ("r", "s", "w", "n")))
        self.same(merge_registers(EMPTY), EMPTY)
        self.same(merge_registers(COUNTER), COUNTER)
        self.same(merge_registers(CROSSED), (
            ("a",), (("x", "xor", ("a", "r")), ("y", "xor", ("a", "r"))), (("r", 0, "x"),), ()))

    def test_sources_and_arguments(self):
        net = (("a",), (("m", "mux", ("s", "s", "r")),),
               (("r", 0, "a"), ("s", 0, "a"), ("x", 0, "s"), ("y", 1, "s"), ("z", 0, "r")), ("z", "x", "s"))
        self.same(merge_registers(net), (
            ("a",), (("m", "mux", ("r", "r", "r")), ("s", "buf", ("r",)), ("z", "buf", ("x",))),
            (("r", 0, "a"), ("x", 0, "r"), ("y", 1, "r")), ("z", "x", "s")))
        # A register whose source is a register that was taken out, and that is one itself.
        ring = ((), (), (("r", 0, "s"), ("s", 0, "r")), ("s",))
        self.same(merge_registers(ring), ((), (("s", "buf", ("r",)),), (("r", 0, "r"),), ("s",)))

    def test_runs_stay(self):
        merged = 0
        for source, net in alike_nets(3, 150):
            found = merge_registers(net)
            check_sound(found)
            self.same(found[3], net[3])
            self.assertEqual([reg[0] for reg in found[2]], [group[0] for group in register_classes(net)])
            merged += len(found[2]) < len(net[2])
            stimulus = random_stimulus(source, net, 8)
            for old, new in zip(plain_run(net, stimulus)[0], plain_run(found, stimulus)[0]):
                self.assertEqual({wire: old[wire] for wire in new}, new)
        self.assertGreater(merged, 20)


def plain_share(net):
    """Point 68 in its words. The tables are lists of values at all joint rows."""
    points = [plain_values(net, row, state) for row, state in joint_rows(net)]
    tables = {wire: [values[wire] for values in points] for wire in wires_of(net)}
    gates = {wire: args for wire, _, args in net[1]}

    def depth(wire):
        return 1 + max([depth(arg) for arg in gates[wire]], default=0) if wire in gates else 0

    chosen = {}
    for wire in gates:
        alike = [other for other in wires_of(net) if tables[other] == tables[wire]]
        chosen[wire] = min(alike, key=lambda other: (depth(other), wires_of(net).index(other)))

    def new(wire):
        return chosen.get(wire, wire)

    made = []
    for wire, op, args in net[1]:
        if chosen[wire] == wire:
            made.append((wire, op, tuple(map(new, args))))
        elif wire in net[3]:
            made.append((wire, "buf", (chosen[wire],)))
    return net[0], tuple(made), tuple((wire, first, new(made)) for wire, first, made in net[2]), net[3]


class ShareTest(CheckCase):
    def test_representatives(self):
        # An input, a register, a constant, a gate of the same depth, a gate of less depth.
        net = (("a", "b"), (
            ("deep", "and", ("copy", "b")), ("copy", "buf", ("a",)), ("flat", "and", ("b", "a")), ("also", "and", ("a", "b")),
            ("keep", "buf", ("r",)), ("o1", "one", ()), ("o2", "not", ("z",)), ("z", "zero", ()), ("z2", "xor", ("deep", "flat")),
            ("end", "or", ("deep", "keep"))),
            (("r", 0, "deep"), ("s", 1, "copy"), ("t", 0, "keep"), ("u", 0, "o2")), ("end", "deep", "copy", "o2"))
        self.same(share_gates(net), (("a", "b"), (
            ("deep", "buf", ("flat",)), ("copy", "buf", ("a",)), ("flat", "and", ("b", "a")), ("o1", "one", ()),
            ("o2", "buf", ("o1",)), ("z", "zero", ()), ("end", "or", ("flat", "r"))),
            (("r", 0, "flat"), ("s", 1, "a"), ("t", 0, "r"), ("u", 0, "o1")), ("end", "deep", "copy", "o2")))
        self.same(share_gates(net), plain_share(net))

    def test_the_depths_are_those_before(self):
        # `x` has the depth 3 and `y` 2 before; `y` stays also if `x` were less deep then.
        net = (("a",), (("b1", "buf", ("a",)), ("b2", "buf", ("b1",)), ("x", "not", ("b2",)), ("y", "not", ("b1",)),
                        ("n", "not", ("x",))), (), ("x", "y", "n"))
        self.same(share_gates(net), (
            ("a",), (("x", "buf", ("y",)), ("y", "not", ("a",)), ("n", "buf", ("a",))), (), ("x", "y", "n")))

    def test_the_first_of_equal_depth(self):
        net = (("a", "b"), (("y", "or", ("a", "b")), ("x", "or", ("b", "a"))), (("r", 0, "x"),), ("x",))
        self.same(share_gates(net), (
            ("a", "b"), (("y", "or", ("a", "b")), ("x", "buf", ("y",))), (("r", 0, "y"),), ("x",)))
        # Inputs come before registers, and both have the depth 0; they have different tables.
        self.same(share_gates((("a",), (("g", "and", ("a", "a")),), (("r", 0, "g"),), ("g",))),
                  (("a",), (("g", "buf", ("a",)),), (("r", 0, "a"),), ("g",)))

    def test_gates_that_nothing_uses(self):
        net = (("a",), (("x", "not", ("a",)), ("y", "not", ("x",)), ("z", "not", ("a",))), (), ())
        self.same(share_gates(net), (("a",), (("x", "not", ("a",)),), (), ()))
        self.same(share_gates(EMPTY), EMPTY)
        self.same(share_gates(COUNTER), COUNTER)

    def test_against_the_words(self):
        source = random.Random(4)
        shared = 0
        for _ in range(250):
            net = random_net(source, source.randrange(3), source.randrange(14), source.randrange(4))
            found = share_gates(net)
            self.same(found, plain_share(net))
            check_sound(found)
            shared += len(found[1]) < len(net[1])
            stimulus = random_stimulus(source, net, 6)
            for old, new in zip(plain_run(net, stimulus)[0], plain_run(found, stimulus)[0]):
                self.assertEqual({wire: old[wire] for wire in new}, new)
        self.assertGreater(shared, 50)


class ErrorsTest(CheckCase):
    def test_nets(self):
        for call, *args in ((register_classes,), (is_register_classes, ()), (merge_registers,), (share_gates,)):
            self.fails(BadNet("unknown", "q"), call, FAULT, *args)
            self.fails(BadNet("ring", "x"), call, RING, *args)
            self.fails(BadNet("twice", "x"), call, FAULT_AND_RING, *args)
            self.fails(TooLarge("small", 8), call, BIG, *args)


if __name__ == "__main__":
    unittest.main()

"""timing.py: enable, reset, unrolling, first values and delays (points 35, 37 and 38)."""

import copy
import random
import unittest

import samples
from checks import CheckCase
from samples import COUNTER, EMPTY, FAULT, FAULT_AND_RING, RING
from wirewatch.errors import BadIndex, BadName, BadNet, BadRow, NameTaken, TooLarge, UnknownWire
from wirewatch.nets import net_fault
from wirewatch.order import check_sound
from wirewatch.timing import add_delay, after_row, unroll, with_enable, with_reset

NO_NAMES = ("", "A", "1", "a.b", "abcdefghi", "e ", "e\n")
WRONG_NETS = ((FAULT, BadNet("unknown", "q")), (RING, BadNet("ring", "x")),
              (FAULT_AND_RING, BadNet("twice", "x")))
# Names are taken by a wire, and by the first parts of an input, of a gate and of a register.
NAMED = (("a", "p.in"), (("g.x.y", "not", ("a",)),), (("h.q", 0, "g.x.y"), ("r", 1, "r")), ("a",))


def random_nets(seed, many):
    source = random.Random(seed)
    for _ in range(many):
        yield source, samples.random_net(source, source.randrange(3), source.randrange(7),
                                         source.randrange(4))


class NewInputCase(CheckCase):
    def check_errors(self, call):
        for net, error in WRONG_NETS:
            self.fails(error, call, net, "A")
        for name in NO_NAMES:
            self.fails(BadName(name), call, COUNTER, name)
        for name in ("up", "r0", "carry", "hi"):
            self.fails(NameTaken(name), call, COUNTER, name)
        for name in ("a", "p", "g", "h", "r"):
            self.fails(NameTaken(name), call, NAMED, name)
        for name in ("x", "q", "in", "y", "pp"):
            self.same(net_fault(call(NAMED, name)), None)


class EnableTest(NewInputCase):
    def test_nets(self):
        self.same(with_enable(COUNTER, "en"), (
            ("up", "en"),
            COUNTER[1] + (("en.h0", "mux", ("en", "r0", "lo")), ("en.h1", "mux", ("en", "r1", "hi"))),
            (("r0", 0, "en.h0"), ("r1", 0, "en.h1")), COUNTER[3]))
        self.same(with_enable(EMPTY, "e"), (("e",), (), (), ()))
        net = (("a",), (("x", "not", ("a",)),), (), ("x",))
        self.same(with_enable(net, "e"), (("a", "e"),) + net[1:])

    def test_ten_registers(self):
        regs = tuple((f"r{at}", at % 2, f"r{(at + 1) % 10}") for at in range(10))
        found = with_enable(((), (), regs, ()), "e")
        self.same(found[1], tuple((f"e.h{at}", "mux", ("e", f"r{at}", f"r{(at + 1) % 10}"))
                                  for at in range(10)))
        self.same(found[2], tuple((f"r{at}", at % 2, f"e.h{at}") for at in range(10)))

    def test_states(self):
        for _, net in random_nets(1, 80):
            before = copy.deepcopy(net)
            found = with_enable(net, "e")
            self.same(check_sound(found), None)
            for row, state in samples.joint_rows(net):
                self.same(samples.plain_next(found, row + (1,), state), samples.plain_next(net, row, state))
                self.same(samples.plain_next(found, row + (0,), state), state)
                for bit in (0, 1):
                    values = samples.plain_values(found, row + (bit,), state)
                    for wire, due in samples.plain_values(net, row, state).items():
                        self.assertEqual(values[wire], due)
            self.same(with_enable(net, "e"), found)
            self.same(net, before)

    def test_errors(self):
        self.check_errors(with_enable)


class ResetTest(NewInputCase):
    def test_nets(self):
        net = (("a",), (("x", "not", ("a",)),), (("r", 0, "x"), ("s", 1, "r")), ("s",))
        self.same(with_reset(net, "cl"), (
            ("a", "cl"),
            net[1] + (("cl.f0", "zero", ()), ("cl.h0", "mux", ("cl", "x", "cl.f0")),
                      ("cl.f1", "one", ()), ("cl.h1", "mux", ("cl", "r", "cl.f1"))),
            (("r", 0, "cl.h0"), ("s", 1, "cl.h1")), ("s",)))
        self.same(with_reset(EMPTY, "e"), (("e",), (), (), ()))

    def test_ten_registers(self):
        regs = tuple((f"r{at}", at % 2, "a") for at in range(10))
        found = with_reset((("a",), (), regs, ()), "e")
        self.same(found[1][18:], (("e.f9", "one", ()), ("e.h9", "mux", ("e", "a", "e.f9"))))
        self.same(len(found[1]), 20)
        self.same(found[2], tuple((f"r{at}", at % 2, f"e.h{at}") for at in range(10)))

    def test_states(self):
        for _, net in random_nets(2, 80):
            found = with_reset(net, "e")
            self.same(check_sound(found), None)
            first = tuple(reg[1] for reg in net[2])
            for row, state in samples.joint_rows(net):
                self.same(samples.plain_next(found, row + (0,), state), samples.plain_next(net, row, state))
                self.same(samples.plain_next(found, row + (1,), state), first)
                for bit in (0, 1):
                    values = samples.plain_values(found, row + (bit,), state)
                    for wire, due in samples.plain_values(net, row, state).items():
                        self.assertEqual(values[wire], due)

    def test_enable_over_reset(self):
        """The enable holds back the reset, and a reset over an enable is not held back."""
        for _, net in random_nets(3, 50):
            first = tuple(reg[1] for reg in net[2])
            over = with_enable(with_reset(net, "z"), "e")
            under = with_reset(with_enable(net, "e"), "z")
            self.same(check_sound(over), None)
            self.same(check_sound(under), None)
            self.same((over[0][-2:], under[0][-2:]), (("z", "e"), ("e", "z")))
            for row, state in samples.joint_rows(net):
                after = samples.plain_next(net, row, state)
                for reset, enable, due in ((0, 0, state), (0, 1, after), (1, 0, state), (1, 1, first)):
                    self.same(samples.plain_next(over, row + (reset, enable), state), due)
                for enable, reset, due in ((0, 0, state), (1, 0, after), (0, 1, first), (1, 1, first)):
                    self.same(samples.plain_next(under, row + (enable, reset), state), due)

    def test_errors(self):
        self.check_errors(with_reset)


class UnrollTest(CheckCase):
    def test_a_net(self):
        net = (("a", "b"), (("x", "and", ("a", "r")), ("k", "one", ())), (("r", 0, "x"), ("s", 1, "b")),
               ("s", "x"))
        self.same(unroll(net, 0), EMPTY)
        self.same(unroll(net, 1), (
            ("t0.a", "t0.b"),
            (("t0.r", "zero", ()), ("t0.s", "one", ()), ("t0.x", "and", ("t0.a", "t0.r")),
             ("t0.k", "one", ())), (), ("t0.s", "t0.x")))
        self.same(unroll(net, 2), (
            ("t0.a", "t0.b", "t1.a", "t1.b"),
            (("t0.r", "zero", ()), ("t0.s", "one", ()), ("t0.x", "and", ("t0.a", "t0.r")),
             ("t0.k", "one", ()),
             ("t1.r", "buf", ("t0.x",)), ("t1.s", "buf", ("t0.b",)), ("t1.x", "and", ("t1.a", "t1.r")),
             ("t1.k", "one", ())), (), ("t0.s", "t0.x", "t1.s", "t1.x")))

    def test_many_nets(self):
        for source, net in random_nets(4, 60):
            for ticks in (0, 1, 3, 20):
                found = unroll(net, ticks)
                self.same(check_sound(found), None)
                stimulus = samples.random_stimulus(source, net, ticks)
                row = tuple(bit for part in stimulus for bit in part)
                values = samples.plain_values(found, row, ())
                due = {}
                for tick, seen in enumerate(samples.plain_run(net, stimulus)[0]):
                    due.update({f"t{tick}.{wire}": bit for wire, bit in seen.items()})
                self.same(values, due)
                self.same(found[3], tuple(f"t{tick}.{wire}" for tick in range(ticks) for wire in net[3]))
                self.same(found[0], tuple(f"t{tick}.{wire}" for tick in range(ticks) for wire in net[0]))
                self.same(found[2], ())

    def test_errors(self):
        for net, error in WRONG_NETS:
            self.fails(error, unroll, net, -1)
            self.fails(error, unroll, net, 21)
        for ticks in (-1, -10 ** 99):
            self.fails(BadIndex(ticks), unroll, COUNTER, ticks)
        for ticks in (21, 10 ** 99):
            self.fails(TooLarge("ticks", 20), unroll, COUNTER, ticks)
            self.fails(TooLarge("ticks", 20), unroll, EMPTY, ticks)
        self.same(len(unroll(COUNTER, 20)[1]), 100)


class AfterRowTest(CheckCase):
    def test_nets(self):
        self.same(after_row(COUNTER, (1,)), COUNTER[:2] + ((("r0", 1, "lo"), ("r1", 0, "hi")), COUNTER[3]))
        self.same(after_row(COUNTER, (0,)), COUNTER)
        self.same(after_row(EMPTY, ()), EMPTY)

    def test_runs(self):
        for source, net in random_nets(5, 80):
            stimulus = samples.random_stimulus(source, net, 4)
            found = after_row(net, stimulus[0])
            self.same((found[0], found[1], found[3]), (net[0], net[1], net[3]))
            self.same([(reg[0], reg[2]) for reg in found[2]], [(reg[0], reg[2]) for reg in net[2]])
            self.same(samples.plain_run(found, stimulus[1:])[0], samples.plain_run(net, stimulus)[0][1:])

    def test_errors(self):
        for net, error in WRONG_NETS:
            self.fails(error, after_row, net, (2,))
        for row in ((), (2,), (-1,), (0, 0)):
            self.fails(BadRow(row), after_row, COUNTER, row)
        self.fails(BadRow((0,)), after_row, EMPTY, (0,))


class DelayTest(CheckCase):
    def test_nets(self):
        self.same(add_delay(COUNTER, "hi", 1, "d"),
                  COUNTER[:2] + (COUNTER[2] + (("d.r0", 0, "hi"),), COUNTER[3] + ("d.r0",)))
        self.same(add_delay(COUNTER, "r1", 3, "d"),
                  COUNTER[:2] + (COUNTER[2] + (("d.r0", 0, "r1"), ("d.r1", 0, "d.r0"), ("d.r2", 0, "d.r1")),
                                 COUNTER[3] + ("d.r2",)))
        self.same(add_delay((("a",), (), (), ()), "a", 1, "d"), (("a",), (), (("d.r0", 0, "a"),), ("d.r0",)))

    def test_values(self):
        for source, net in random_nets(6, 60):
            if not samples.wires_of(net):
                continue
            wire = source.choice(samples.wires_of(net))
            for count in range(1, 9):
                found = add_delay(net, wire, count, "d")
                self.same(check_sound(found), None)
                stimulus = samples.random_stimulus(source, net, 11)
                ticks = samples.plain_run(found, stimulus)[0]
                seen = [values[wire] for values in samples.plain_run(net, stimulus)[0]]
                due = ([0] * count + seen)[:11]
                self.same([values[f"d.r{count - 1}"] for values in ticks], due)
                self.same(found[3][-1], f"d.r{count - 1}")

    def test_errors_one_by_one(self):
        for net, error in WRONG_NETS:
            self.fails(error, add_delay, net, "zz", 0, "A")
        for count in (0, -1, 9, 10 ** 99, -10 ** 99):
            self.fails(BadIndex(count), add_delay, COUNTER, "hi", count, "d")
        for name in NO_NAMES:
            self.fails(BadName(name), add_delay, COUNTER, "hi", 8, name)
        for wire in ("z", "", "A", "hi.", "up "):
            self.fails(UnknownWire(wire), add_delay, COUNTER, wire, 1, "d")
        for name in ("up", "r0", "carry"):
            self.fails(NameTaken(name), add_delay, COUNTER, "hi", 1, name)
        for name in ("a", "p", "g", "h", "r"):
            self.fails(NameTaken(name), add_delay, NAMED, "a", 8, name)

    def test_two_errors_at_once(self):
        self.fails(BadIndex(0), add_delay, COUNTER, "z", 0, "A")
        self.fails(BadIndex(9), add_delay, COUNTER, "hi", 9, "A")
        self.fails(BadIndex(9), add_delay, COUNTER, "z", 9, "up")
        self.fails(BadName("A"), add_delay, COUNTER, "z", 1, "A")
        self.fails(UnknownWire("z"), add_delay, COUNTER, "z", 1, "up")


if __name__ == "__main__":
    unittest.main()

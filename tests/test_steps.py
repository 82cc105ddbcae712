"""steps.py: local tables, steps and prices (points 31 to 33)."""

import copy
import itertools
import random
import unittest

import plain_steps
import samples
from checks import CheckCase
from samples import COUNTER, EMPTY, FAULT, FAULT_AND_RING, RING
from wirewatch.errors import BadNet, BadStep, UnknownWire
from wirewatch.logic import difference
from wirewatch.order import check_sound
from wirewatch.steps import apply_step, local_table, price, steps
from wirewatch.words import Word

RULES = ("skip", "fold", "pass", "turn", "thin", "double", "share", "swap", "drop")
NAMES = ("a", "b", "c", "d", "k0", "k1", "u", "n", "p")


def net_with(op, args, wire="x"):
    """A net with this gate, two constants, a buf gate, a not gate and another buf gate."""
    gates = (("k0", "zero", ()), ("k1", "one", ()), ("u", "buf", ("a",)), ("n", "not", ("b",)),
             ("p", "buf", ("k1",)), (wire, op, tuple(args)))
    return ("a", "b", "c"), gates, (("d", 0, "a"),), (wire, "k0", "k1", "u", "n", "p")


def gate_of(net, wire):
    return next(gate for gate in net[1] if gate[0] == wire)


def random_net(source, most=10):
    """A net to which many rules apply."""
    ops = ("zero", "one", "buf", "buf", "not", "not", "and", "or", "xor", "mux", "mux")
    return samples.random_net(source, source.randrange(3), source.randrange(1, most),
                              source.randrange(3), source.randrange(4), ops)


class LocalTableTest(CheckCase):
    def test_examples(self):
        self.same(local_table(net_with("mux", "abc"), "x"), (("a", "b", "c"), Word(8, 0b11100100)))
        self.same(local_table(net_with("mux", "cba"), "x"), (("c", "b", "a"), Word(8, 0b11100100)))
        self.same(local_table(net_with("and", "aa"), "x"), (("a",), Word(2, 0b10)))
        self.same(local_table(net_with("xor", "dd"), "x"), (("d",), Word(2, 0)))
        self.same(local_table(net_with("mux", ("k1", "a", "b")), "x"), (("a", "b"), Word(4, 0b1100)))
        self.same(local_table(net_with("mux", ("a", "k1", "a")), "x"), (("a",), Word(2, 0b11)))
        self.same(local_table(net_with("or", ("k1", "k0")), "x"), ((), Word(1, 1)))
        self.same(local_table(net_with("zero", ()), "x"), ((), Word(1, 0)))
        self.same(local_table(net_with("one", ()), "x"), ((), Word(1, 1)))
        # A buf of a constant is not constant.
        self.same(local_table(net_with("buf", ("p",)), "x"), (("p",), Word(2, 0b10)))

    def test_all_gates(self):
        for op, count in samples.COUNTS.items():
            for args in itertools.product(NAMES, repeat=count):
                net = net_with(op, args)
                due = Word.from_row(tuple(plain_steps.local_bits(net, "x")))
                self.same(local_table(net, "x"), (tuple(plain_steps.free_wires(net, "x")), due))

    def test_errors(self):
        self.fails(BadNet("unknown", "q"), local_table, FAULT, "z")
        self.fails(BadNet("ring", "x"), local_table, RING, "z")
        self.fails(BadNet("twice", "x"), local_table, FAULT_AND_RING, "z")
        for wire in ("up", "r0", "z", "", "a b", "hi."):
            self.fails(UnknownWire(wire), local_table, COUNTER, wire)


class StepsTest(CheckCase):
    def check(self, net):
        """All that steps.py says of the net is what the plain reading says of it."""
        due = plain_steps.results(net)
        before = copy.deepcopy(net)
        self.same(steps(net), tuple(step for step, _ in due))
        self.same(price(net), plain_steps.plain_price(net))
        results = dict(due)
        places = [gate[0] for gate in net[1]] + [reg[0] for reg in net[2]] + list(net[0]) + ["z"]
        for wire in places:
            for rule in RULES + ("", "Skip", "merge"):
                if (rule, wire) in results:
                    after = apply_step(net, (rule, wire))
                    self.same(after, results[rule, wire])
                    self.same(check_sound(after), None)
                    self.assertLess(price(after), price(net))
                else:
                    self.fails(BadStep(rule, wire), apply_step, net, (rule, wire))
        self.same(net, before)
        return [step[0] for step, _ in due]

    def rules(self, op, args, wire="x"):
        """The rules that apply at one gate."""
        net = net_with(op, args, wire)
        self.check(net)
        return [rule for rule, place in steps(net) if place == wire]

    def becomes(self, rule, op, args, new_op, new_args):
        """The rule applies at the gate, and gives this gate and nothing else."""
        net = net_with(op, args)
        self.assertIn(rule, self.rules(op, args))
        due = net[1][:-1] + (("x", new_op, tuple(new_args)),)
        self.same(apply_step(net, (rule, "x")), (net[0], due, net[2], net[3]))

    def fits_not(self, rule, op, args):
        self.assertNotIn(rule, self.rules(op, args))
        self.fails(BadStep(rule, "x"), apply_step, net_with(op, args), (rule, "x"))

    def test_skip(self):
        self.becomes("skip", "and", ("u", "b"), "and", ("a", "b"))
        self.becomes("skip", "mux", ("u", "p", "u"), "mux", ("a", "k1", "a"))
        self.becomes("skip", "buf", ("u",), "buf", ("a",))
        self.becomes("skip", "not", ("p",), "not", ("k1",))
        for args in (("a", "b"), ("n", "k0"), ("d", "c")):
            self.fits_not("skip", "and", args)

    def test_skip_of_several_bufs(self):
        gates = (("u", "buf", ("a",)), ("v", "buf", ("u",)), ("w", "buf", ("v",)),
                 ("x", "mux", ("w", "v", "w")))
        net = (("a",), gates, (("r", 1, "w"), ("s", 0, "x"), ("t", 0, "r")), ("x", "r", "s", "t"))
        self.check(net)
        after = apply_step(net, ("skip", "x"))
        self.same(after, (net[0], gates[:3] + (("x", "mux", ("v", "u", "v")),), net[2], net[3]))
        after = apply_step(after, ("skip", "x"))
        self.same(gate_of(after, "x"), ("x", "mux", ("u", "a", "u")))
        after = apply_step(net, ("skip", "r"))
        self.same(after, (net[0], gates, (("r", 1, "v"),) + net[2][1:], net[3]))
        self.same(apply_step(apply_step(after, ("skip", "r")), ("skip", "r"))[2][0], ("r", 1, "a"))
        for wire in ("s", "t", "u"):
            self.fails(BadStep("skip", wire), apply_step, net, ("skip", wire))
        for rule in RULES[1:]:
            self.fails(BadStep(rule, "r"), apply_step, net, (rule, "r"))

    def test_fold(self):
        self.becomes("fold", "and", ("a", "k0"), "zero", ())
        self.becomes("fold", "or", ("k1", "n"), "one", ())
        self.becomes("fold", "xor", ("b", "b"), "zero", ())
        self.becomes("fold", "buf", ("k1",), "one", ())
        self.becomes("fold", "not", ("k1",), "zero", ())
        self.becomes("fold", "mux", ("a", "k1", "k1"), "one", ())
        self.becomes("fold", "mux", ("a", "a", "k0"), "zero", ())
        self.fits_not("fold", "zero", ())
        self.fits_not("fold", "one", ())
        self.fits_not("fold", "and", ("a", "k1"))
        self.fits_not("fold", "and", ("a", "p"))
        self.fits_not("fold", "mux", ("a", "k0", "k1"))

    def test_pass(self):
        self.becomes("pass", "and", ("a", "k1"), "buf", ("a",))
        self.becomes("pass", "or", ("b", "b"), "buf", ("b",))
        self.becomes("pass", "xor", ("k0", "n"), "buf", ("n",))
        self.becomes("pass", "mux", ("k1", "a", "b"), "buf", ("b",))
        self.becomes("pass", "mux", ("a", "b", "b"), "buf", ("b",))
        self.becomes("pass", "mux", ("a", "k0", "k1"), "buf", ("a",))
        self.becomes("pass", "mux", ("a", "k0", "a"), "buf", ("a",))
        self.fits_not("pass", "buf", ("a",))
        self.fits_not("pass", "not", ("a",))
        self.fits_not("pass", "and", ("a", "b"))
        self.fits_not("pass", "and", ("a", "k0"))
        self.fits_not("pass", "one", ())

    def test_turn(self):
        self.becomes("turn", "xor", ("a", "k1"), "not", ("a",))
        self.becomes("turn", "mux", ("a", "k1", "k0"), "not", ("a",))
        self.fits_not("turn", "not", ("a",))
        self.fits_not("turn", "xor", ("a", "k0"))
        self.fits_not("turn", "buf", ("a",))
        self.fits_not("turn", "not", ("k1",))
        self.fits_not("turn", "zero", ())

    def test_thin(self):
        self.becomes("thin", "mux", ("a", "k0", "b"), "and", ("a", "b"))
        self.becomes("thin", "mux", ("a", "a", "b"), "and", ("a", "b"))
        self.becomes("thin", "mux", ("b", "b", "a"), "and", ("b", "a"))
        self.becomes("thin", "mux", ("a", "b", "k1"), "or", ("a", "b"))
        self.becomes("thin", "mux", ("c", "a", "c"), "or", ("c", "a"))
        self.fits_not("thin", "mux", ("a", "b", "c"))
        self.fits_not("thin", "mux", ("a", "k1", "b"))
        self.fits_not("thin", "mux", ("a", "b", "k0"))
        self.fits_not("thin", "mux", ("k1", "a", "b"))
        self.fits_not("thin", "mux", ("a", "k0", "a"))
        self.fits_not("thin", "and", ("a", "b"))

    def test_double(self):
        self.becomes("double", "not", ("n",), "buf", ("b",))
        self.fits_not("double", "not", ("u",))
        self.fits_not("double", "not", ("a",))
        self.fits_not("double", "buf", ("n",))
        self.fits_not("double", "not", ("k0",))

    def test_share(self):
        gates = (("w", "and", ("a", "b")), ("x", "and", ("a", "b")), ("y", "and", ("b", "a")),
                 ("z", "and", ("a", "b")), ("v", "or", ("a", "b")), ("k", "one", ()),
                 ("l", "one", ()), ("m", "buf", ("a",)), ("o", "buf", ("a",)), ("p", "not", ("a",)),
                 ("q", "not", ("a",)), ("s", "mux", ("a", "b", "a")), ("t", "mux", ("a", "b", "a")))
        net = (("a", "b"), gates, (), tuple(gate[0] for gate in gates))
        self.check(net)
        shared = [wire for rule, wire in steps(net) if rule == "share"]
        self.same(shared, ["x", "z", "q", "t"])
        self.same(apply_step(net, ("share", "z")),
                  (net[0], gates[:3] + (("z", "buf", ("w",)),) + gates[4:], (), net[3]))
        self.same(gate_of(apply_step(net, ("share", "q")), "q"), ("q", "buf", ("p",)))

    def test_swap(self):
        for op in ("and", "or", "xor"):
            self.becomes("swap", op, ("b", "a"), op, ("a", "b"))
            self.becomes("swap", op, ("n", "k1"), op, ("k1", "n"))
            self.fits_not("swap", op, ("a", "b"))
            self.fits_not("swap", op, ("a", "a"))
        self.fits_not("swap", "mux", ("c", "b", "a"))
        # Texts are compared by their characters.
        net = (("a", "a.b", "a1", "a10", "a2"), (("x", "or", ("a2", "a10")), ("y", "or", ("a.b", "a")),
                                                 ("z", "or", ("a1", "a.b"))), (), ("x", "y", "z"))
        self.check(net)
        self.same(steps(net), (("swap", "x"), ("swap", "y"), ("swap", "z")))

    def test_drop(self):
        gates = (("w", "not", ("a",)), ("x", "and", ("w", "a")), ("y", "not", ("a",)), ("k", "one", ()),
                 ("z", "or", ("a", "b")), ("v", "xor", ("a", "b")))
        net = (("a", "b"), gates, (("r", 0, "z"), ("s", 1, "s")), ("v",))
        self.check(net)
        # A gate that only a useless gate uses is used, and so is the source of a useless register.
        self.same([wire for rule, wire in steps(net) if rule == "drop"], ["x", "y", "k"])
        after = apply_step(net, ("drop", "x"))
        self.same(after, (net[0], gates[:1] + gates[2:], net[2], net[3]))
        self.assertIn(("drop", "w"), steps(after))

    def test_all_gates(self):
        seen = set()
        for op, count in samples.COUNTS.items():
            for args in itertools.product(NAMES, repeat=count):
                net = net_with(op, args)
                due = tuple(step for step, _ in plain_steps.results(net))
                self.same(steps(net), due)
                seen.update(rule for rule, _ in due)
        self.assertEqual(seen, {"skip", "fold", "pass", "turn", "thin", "double", "swap", "share"})

    def test_several_rules_at_one_place(self):
        self.same(self.rules("and", ("p", "b")), ["skip", "swap"])
        net = (("a",), (("n", "not", ("a",)), ("x", "not", ("n",)), ("y", "not", ("n",))), (), ())
        self.same(steps(net), (("double", "x"), ("drop", "x"), ("double", "y"), ("share", "y"), ("drop", "y")))
        net = (("a", "b"), (("u", "buf", ("b",)), ("w", "or", ("u", "a")), ("x", "or", ("u", "a"))), (),
               ("w",))
        self.check(net)
        self.same(steps(net), (("skip", "w"), ("swap", "w"), ("skip", "x"), ("share", "x"), ("swap", "x"),
                               ("drop", "x")))
        self.same(self.rules("mux", ("u", "u", "k1")), ["skip", "pass"])
        self.same(self.rules("xor", ("p", "p")), ["skip", "fold"])

    def test_many_nets(self):
        source = random.Random(1)
        seen = set()
        for _ in range(250):
            net = random_net(source)
            seen.update(self.check(net))
        self.assertEqual(seen, set(RULES))

    def test_values_stay(self):
        source = random.Random(2)
        for _ in range(80):
            net = random_net(source)
            for step in steps(net):
                after = apply_step(net, step)
                self.same(difference(net, after), None)
                for row, state in samples.joint_rows(net):
                    values = samples.plain_values(net, row, state)
                    for wire, bit in samples.plain_values(after, row, state).items():
                        self.assertEqual(values[wire], bit)

    def test_none(self):
        for net in (EMPTY, COUNTER[:1] + ((), (("r", 0, "up"),), ("up",)), (("a",), (), (), ("a",))):
            self.same(steps(net), ())
            self.fails(BadStep("skip", "a"), apply_step, net, ("skip", "a"))
            self.fails(BadStep("drop", "up"), apply_step, net, ("drop", "up"))

    def test_errors(self):
        for call in (steps, price):
            self.fails(BadNet("unknown", "q"), call, FAULT)
            self.fails(BadNet("twice", "x"), call, FAULT_AND_RING)
            self.fails(BadNet("ring", "x"), call, RING)
        self.fails(BadNet("unknown", "q"), apply_step, FAULT, ("merge", "z"))
        self.fails(BadNet("ring", "x"), apply_step, RING, ("drop", "x"))


class PriceTest(CheckCase):
    def test_examples(self):
        self.same(price(EMPTY), (0, 0, 0))
        self.same(price(COUNTER), (12, 0, 2))
        for op, weight in (("zero", 1), ("one", 1), ("buf", 2), ("not", 3), ("and", 4), ("or", 4),
                           ("xor", 4), ("mux", 5)):
            args = ("a", "b", "c")[:samples.COUNTS[op]]
            self.same(price((("a", "b", "c"), (("x", op, args),), (), ())), (weight, 0, 0))

    def test_links(self):
        gates = (("u", "buf", ("a",)), ("v", "buf", ("u",)), ("w", "buf", ("v",)),
                 ("x", "and", ("w", "w")), ("y", "not", ("v",)))
        # Of v: 1, of w: 2, of x: 3 and 3, of y: 2; then 3 and 0 of the registers. Outputs do not count.
        net = (("a",), gates, (("r", 0, "w"), ("s", 0, "x")), ("w", "v"))
        self.same(price(net), (13, 14, 0))
        self.same(price((net[0], gates[::-1], net[2], net[3])), (13, 14, 0))

    def test_long_chains(self):
        for step in (1, -1):
            net = samples.chain(300, step, "buf")
            self.same(price(net), (600, 299 * 300 // 2, 0))
            self.same(len(steps(net)), 299)


if __name__ == "__main__":
    unittest.main()

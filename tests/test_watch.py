"""Points 35, 36, 39, 45 and 53 to 56, and what the interface says of watch.py."""

import random
import unittest

from checks import CheckCase
from limits import FROM_MARKED, FUSE_201, OPTIONS, THEN_201, pattern
from plain_machines import (LAST, LOOSE, ODD, ODD_LENGTH, cycle, last_letters, least_of, letter_rows,
                            plain_accepts, plain_least, random_machine, row_of)
from plain_patterns import (ANY, EMPTY as EMPTY_NODE, NEVER, NOT_A, SEE_A, SEE_B, Plain, chain_of,
                            random_pattern, tree_of)
from samples import (BIG, COUNTER, EMPTY, FAULT, FAULT_AND_RING, RING, plain_run, plain_values,
                     random_net, random_stimulus, rows_of)
from wirewatch.errors import (BadMachine, BadName, BadNet, BadPattern, BadRow, NameTaken, TooLarge,
                              UnknownWire)
from wirewatch.joining import join_nets
from wirewatch.machines import least
from wirewatch.making import flag_machine
from wirewatch.nets import wires
from wirewatch.order import check_sound
from wirewatch.watch import attach, machine_flags, machine_from, plain_flags, watcher

# Over no wire, with 16 states, and over three with 16 and 17.
SIXTEEN = cycle(16, ("a", "b", "c"), 7)
SEVENTEEN = cycle(17, ("a", "b", "c"), 7)
# It has 17 states, of which one is not reached.
SIXTEEN_USED = (("a",), cycle(16)[1] + ((0, 3),), cycle(16)[2] + (1,))
PATTERN = ("then", SEE_A, NOT_A)
AB_NET = (("a", "b"), (("x", "and", ("a", "b")), ("y", "not", ("x",))), (("r", 0, "x"),), ("y", "r"))
LATE = tuple((tick % 2, 1) for tick in range(301))


class WatcherTest(CheckCase):
    def check_watcher(self, machine, name, one_hot, stimuli):
        net = watcher(machine, name, one_hot=one_hot)
        due = least_of(machine)
        states, letters = len(due[2]), 2 ** len(due[0])
        check_sound(net)
        inputs, gates, regs, outputs = net
        self.same(inputs, machine[0])
        self.same(outputs, (f"{name}.flag",))
        self.assertIn(f"{name}.flag", [gate[0] for gate in gates])
        self.assertTrue(all(gate[0].startswith(f"{name}.") for gate in gates))
        self.assertLessEqual(len(gates), min(600, 40 + 8 * states * letters))
        count = states if one_hot else min(k for k in range(9) if 2 ** k >= states)
        firsts = (1,) + (0,) * (states - 1) if one_hot else (0,) * count
        self.same(tuple(reg[:2] for reg in regs), tuple((f"{name}.r{at}", bit) for at, bit in enumerate(firsts)))
        for row in stimuli:
            ticks, passed = plain_run(net, [row_of(letter, len(inputs)) for letter in row])
            state = 0
            for tick in range(len(row) + 1):
                shown = (tuple(int(at == state) for at in range(states)) if one_hot
                         else row_of(state, count))
                self.assertEqual(passed[tick], shown, (machine, row))
                if tick < len(row):
                    state = due[1][state][row[tick]]
                    self.assertEqual(ticks[tick][f"{name}.flag"], due[2][state], (machine, row))

    def test_some(self):
        for machine in (LAST, ODD, LOOSE, ODD_LENGTH, ((), ((0,),), (0,)), ((), ((0,),), (1,)),
                        (("a",), ((0, 0),), (1,))):
            for one_hot in (False, True):
                self.check_watcher(machine, "n", one_hot,
                                   letter_rows(2 ** len(machine[0]), 5 if len(machine[0]) < 2 else 3))

    def test_each_number_of_states(self):
        source = random.Random(1)
        for names in ((), ("a",), ("a", "b"), ("a", "u1.sum", "c")):
            for states in (1, 2, 3, 4, 5, 8, 9, 15, 16):
                machine = cycle(states, names, states - 1)
                rows = [tuple(source.randrange(2 ** len(names)) for _ in range(40)) for _ in range(3)]
                for one_hot in (False, True):
                    self.check_watcher(machine, "w", one_hot, rows)

    def test_machines_that_are_not_least(self):
        source = random.Random(2)
        made = 0
        while made < 60:
            names = ("a", "b", "c")[:source.randrange(4)]
            machine = random_machine(source, names, source.randrange(1, 14))
            if len(least_of(machine)[2]) > 16:
                continue
            made += 1
            rows = [tuple(source.randrange(2 ** len(names)) for _ in range(20)) for _ in range(5)]
            for one_hot in (False, True):
                self.check_watcher(machine, "q0", one_hot, rows)
        for machine in (LOOSE, SIXTEEN_USED, (("a",), ((0, 0),) * 60, (1,) * 60)):
            for one_hot in (False, True):
                self.check_watcher(machine, "n", one_hot, letter_rows(2, 4) + [(1, 0) * 15])

    def test_dense_machines(self):
        # 16 states and 8 letters that lead everywhere.
        source = random.Random(3)
        for _ in range(4):
            moves = tuple(tuple((state * 3 + letter * source.randrange(1, 16) + letter) % 16
                                for letter in range(8)) for state in range(16))
            machine = (("a", "b", "c"), moves, tuple(source.randrange(2) for _ in range(16)))
            rows = [tuple(source.randrange(8) for _ in range(60)) for _ in range(3)]
            for one_hot in (False, True):
                self.check_watcher(machine, "n", one_hot, rows)
        for one_hot in (False, True):
            self.check_watcher(last_letters(4), "n", one_hot, [tuple(source.randrange(2) for _ in range(99))])

    def test_one_hot_is_the_option(self):
        self.same(watcher(LAST, "n", one_hot=False), watcher(LAST, "n"))
        self.assertEqual(len(watcher(SIXTEEN, "n")[2]), 4)
        self.assertEqual(len(watcher(SIXTEEN, "n", one_hot=True)[2]), 16)
        self.same(watcher(((), ((0,),), (1,)), "n")[2], ())
        self.assertEqual(len(watcher(((), ((0,),), (1,)), "n", one_hot=True)[2]), 1)

    def test_limit(self):
        for one_hot in (False, True):
            self.fails(TooLarge("states", 16), watcher, SEVENTEEN, "n", one_hot=one_hot)
            self.fails(TooLarge("states", 16), watcher, cycle(17), "n", one_hot=one_hot)
            self.fails(TooLarge("states", 16), watcher, cycle(60), "n", one_hot=one_hot)
            self.assertEqual(len(watcher(SIXTEEN_USED, "n", one_hot=one_hot)[2]), 16 if one_hot else 4)

    def test_names(self):
        over = (("a", "u1.sum"), ODD[1], ODD[2])
        for name in ("a", "u1"):
            self.fails(NameTaken(name), watcher, over, name)
        for name in ("u", "u1s", "sum", "aa", "b", "flag"):
            self.assertEqual(watcher(over, name)[3], (f"{name}.flag",))
        for name in ("", "u1.sum", "A", "1a", "toolong1a", "a "):
            self.fails(BadName(name), watcher, over, name)
        self.fails(NameTaken("a"), watcher, (("a.b.c",), LAST[1], LAST[2]), "a")

    def test_order_of_errors(self):
        self.fails(BadMachine("names"), watcher, (("a", "a"), (), ()), "A")
        self.fails(BadName("A"), watcher, SEVENTEEN, "A")
        self.fails(NameTaken("a"), watcher, SEVENTEEN, "a")


class AttachTest(CheckCase):
    def test_is_the_joined_net(self):
        for from_start, sticky in OPTIONS:
            machine = flag_machine(PATTERN, from_start=from_start, sticky=sticky)
            for one_hot in (False, True):
                found = attach(AB_NET, PATTERN, "w", from_start=from_start, sticky=sticky, one_hot=one_hot)
                self.same(found, join_nets(AB_NET, watcher(machine, "w", one_hot=one_hot)))
                self.same(found[0], AB_NET[0])
                self.same(found[3], ("y", "r", "w.flag"))
                self.same(found[1][:2], AB_NET[1])
                self.same(found[2][:1], AB_NET[2])
        self.same(attach(AB_NET, PATTERN, "w"),
                  attach(AB_NET, PATTERN, "w", from_start=False, sticky=False, one_hot=False))

    def test_flags(self):
        source = random.Random(4)
        made = 0
        while made < 40:
            net = random_net(source, source.randrange(1, 3), source.randrange(6), source.randrange(3))
            net = (net[0] + ("a", "b"),) + net[1:]
            node = random_pattern(source, source.randrange(1, 8))
            from_start, sticky = OPTIONS[made % 4]
            try:
                joined = attach(net, node, "w", from_start=from_start, sticky=sticky, one_hot=made % 3 == 0)
            except TooLarge:
                continue
            made += 1
            check_sound(joined)
            self.same(joined[3], net[3] + ("w.flag",))
            stimulus = random_stimulus(source, net, source.randrange(12))
            ticks, _ = plain_run(net, stimulus)
            joined_ticks, _ = plain_run(joined, stimulus)
            for old, new in zip(ticks, joined_ticks):
                self.assertEqual(old, {wire: new[wire] for wire in old})
            view = (("a", "b"), tuple((values["a"], values["b"]) for values in ticks))
            due = Plain(view).flags(node, from_start, sticky)
            self.same(tuple(values["w.flag"] for values in joined_ticks), due)
            for call in (plain_flags, machine_flags):
                self.same(call(net, node, stimulus, from_start=from_start, sticky=sticky), due)

    def test_wires_within_the_net(self):
        net = (("a",), (("u1.g", "not", ("a",)),), (("r", 0, "u1.g"),), ())
        node = ("then", ("see", (("u1.g", 1),)), ("see", (("r", 1), ("a", 1))))
        found = attach(net, node, "u")
        self.same(found[3], ("u.flag",))
        ticks, _ = plain_run(found, ((0,), (1,), (1,), (0,), (1,)))
        self.same(tuple(values["u.flag"] for values in ticks), (0, 1, 0, 0, 1))
        # The order of the wires of the machine is that of the texts.
        self.same(plain_flags(net, node, ((0,), (1,), (1,))), (0, 1, 0))
        self.same(machine_flags(net, node, ((0,), (1,), (1,))), (0, 1, 0))

    def test_a_watcher_watched(self):
        first = attach(AB_NET, PATTERN, "w")
        second = attach(first, ("see", (("w.flag", 1),)), "v", sticky=True)
        self.same(second[3], ("y", "r", "w.flag", "v.flag"))
        ticks, _ = plain_run(second, ((0, 1), (1, 1), (0, 0), (1, 1)))
        self.same([values["v.flag"] for values in ticks], [0, 0, 1, 1])

    def test_a_large_net(self):
        self.assertEqual(attach(BIG, ("see", (("i5", 1), ("t", 0))), "w")[3], ("r", "w.flag"))

    def test_errors(self):
        self.fails(UnknownWire("a"), attach, COUNTER, PATTERN, "w")
        self.fails(UnknownWire("b"), attach, (("a",), (), (), ()), ("then", SEE_B, SEE_A), "w")
        for name in ("a", "x", "r"):
            self.fails(NameTaken(name), attach, AB_NET, PATTERN, name)
        self.fails(NameTaken("u1"), attach, (("a", "u1.x"), (), (), ()), PATTERN, "u1")
        self.same(attach((("a", "u1.x"), (), (), ()), PATTERN, "u")[3], ("u.flag",))
        self.fails(TooLarge("pairs", 200), attach, AB_NET, pattern(THEN_201), "w")
        self.fails(TooLarge("states", 16), attach, AB_NET, pattern("[]{9} ; []{6}"), "w")
        # The machine of the pattern has 16 states, that of its rows with a tick 17.
        for from_start, sticky in OPTIONS:
            self.fails(TooLarge("states", 16), attach, AB_NET, pattern(FROM_MARKED), "w",
                       from_start=from_start, sticky=sticky)

    def test_order_of_errors(self):
        bad = ("see", (("a", 2),))
        over = pattern(THEN_201)
        self.fails(BadNet("unknown", "q"), attach, FAULT, bad, "W")
        self.fails(BadNet("ring", "x"), attach, RING, bad, "W")
        self.fails(BadNet("twice", "x"), attach, FAULT_AND_RING, bad, "W")
        self.fails(BadPattern("bit", bad), attach, AB_NET, bad, "W")
        self.fails(TooLarge("nodes", 16), attach, COUNTER, chain_of(17), "W")
        self.fails(TooLarge("names", 3), attach, COUNTER, tree_of(15, ("a", "b", "c", "d")), "W")
        self.fails(BadName("W"), attach, COUNTER, over, "W")
        self.fails(BadName("w.x"), attach, COUNTER, over, "w.x")
        self.fails(UnknownWire("a"), attach, COUNTER, over, "lo")
        self.fails(NameTaken("x"), attach, AB_NET, over, "x")


class FlagsTest(CheckCase):
    def test_options(self):
        rows = ((1, 0), (0, 0), (0, 1), (1, 1), (0, 0), (1, 0))
        for call in (plain_flags, machine_flags):
            self.same(call(AB_NET, PATTERN, rows), (0, 1, 0, 0, 1, 0))
            self.same(call(AB_NET, PATTERN, rows, from_start=True), (0, 1, 0, 0, 0, 0))
            self.same(call(AB_NET, PATTERN, rows, sticky=True), (0, 1, 1, 1, 1, 1))
            self.same(call(AB_NET, PATTERN, rows[1:], from_start=True, sticky=True), (0, 0, 0, 0, 0))
            self.same(call(AB_NET, PATTERN, ()), ())
            self.same(call(AB_NET, ("see", (("y", 0), ("r", 1))), ((1, 1), (1, 1), (0, 1))), (0, 1, 0))
            self.same(call(AB_NET, NEVER, rows), (0,) * 6)
            self.same(call(AB_NET, EMPTY_NODE, rows), (0,) * 6)
            self.same(call(EMPTY, ANY, ((), ())), (1, 1))

    def test_limits_of_the_stimulus(self):
        self.assertEqual(len(plain_flags(AB_NET, PATTERN, LATE[:20])), 20)
        self.fails(TooLarge("ticks", 20), plain_flags, AB_NET, PATTERN, LATE[:21])
        self.same(machine_flags(AB_NET, PATTERN, LATE[:21])[:20], plain_flags(AB_NET, PATTERN, LATE[:20]))
        self.same(machine_flags(AB_NET, PATTERN, LATE[:300]), (0, 0) + (1, 0) * 149)
        self.fails(TooLarge("ticks", 300), machine_flags, AB_NET, PATTERN, LATE)
        for call, most in ((plain_flags, 20), (machine_flags, 300)):
            for bad in ((1,), (1, 2), (1, 0, 1)):
                self.fails(BadRow(bad), call, AB_NET, PATTERN, LATE[:most] + (bad, (9, 9)))
            self.fails(BadRow((1, 0)), call, COUNTER, PATTERN, ((1,), (1, 0), (2,)))

    def test_order_of_errors(self):
        bad = ("see", (("a", 2),))
        for call in (plain_flags, machine_flags):
            self.fails(BadNet("unknown", "q"), call, FAULT, bad, ((7,),))
            self.fails(BadNet("ring", "x"), call, RING, bad, ((7,),))
            self.fails(BadPattern("bit", bad), call, COUNTER, bad, ((7,),))
            self.fails(TooLarge("nodes", 16), call, COUNTER, chain_of(17), ((7,),))
            self.fails(BadRow((7,)), call, COUNTER, PATTERN, ((7,),))
            self.fails(UnknownWire("a"), call, COUNTER, PATTERN, ((1,),))
            self.fails(UnknownWire("a"), call, COUNTER, ("then", SEE_B, pattern(THEN_201)), ())
        self.fails(TooLarge("ticks", 20), plain_flags, COUNTER, PATTERN, ((1,),) * 21)
        self.fails(TooLarge("ticks", 300), machine_flags, COUNTER, PATTERN, ((1,),) * 301)

    def test_patterns_over_a_limit(self):
        for text, due in ((THEN_201, TooLarge("pairs", 200)), (FUSE_201, TooLarge("pairs", 200)),
                          ("[]{9} ; []{6}", TooLarge("states", 16))):
            for stimulus in ((), LATE[:5]):
                self.fails(due, machine_flags, AB_NET, pattern(text), stimulus)
            # The plain reading has no such limit.
            self.assertEqual(len(plain_flags(AB_NET, pattern(text), LATE[:5])), 5)


class MachineFromTest(CheckCase):
    def plain_machine(self, net, wire):
        inputs, firsts = net[0], tuple(reg[1] for reg in net[2])
        rows = rows_of(len(inputs))

        def follow(key, letter):
            values = plain_values(net, rows[letter], key[0])
            return tuple(values[source] for _, _, source in net[2]), values[wire]

        return plain_least(inputs, (firsts, 0), follow, lambda key: key[1] == 1)

    def test_some(self):
        self.same(machine_from((("a",), (), (), ()), "a"), LAST)
        self.same(machine_from(COUNTER, "r0"),
                  (("up",), ((0, 1), (2, 3), (2, 3), (0, 1)), (0, 0, 1, 1)))
        self.same(machine_from(((), (("o", "one", ()),), (), ()), "o"), ((), ((1,), (1,)), (0, 1)))
        self.same(machine_from(((), (("o", "zero", ()),), (), ()), "o"), ((), ((0,),), (0,)))
        self.same(machine_from(((), (("o", "not", ("r",)),), (("r", 0, "o"),), ()), "r"),
                  ((), ((1,), (2,), (1,)), (0, 0, 1)))

    def test_random_nets(self):
        source = random.Random(5)
        made = 0
        while made < 150:
            net = random_net(source, source.randrange(4), source.randrange(8), source.randrange(5))
            if not wires(net):
                continue
            made += 1
            wire = source.choice(wires(net))
            due = self.plain_machine(net, wire)
            if len(due[2]) > 16:
                self.fails(TooLarge("states", 16), machine_from, net, wire)
                continue
            found = machine_from(net, wire)
            self.same(found, due)
            self.same(found, least(found))
            for row in letter_rows(2 ** len(net[0]), 3 if len(net[0]) < 3 else 2):
                ticks, _ = plain_run(net, [row_of(letter, len(net[0])) for letter in row])
                self.assertEqual(plain_accepts(found, row), bool(row) and ticks[-1][wire] == 1)

    def test_states_at_the_limit(self):
        # A counter of four bits, and whether it shows its last value, or any other one.
        bits = [f"r{at}" for at in range(4)]
        gates = [("c0", "buf", ("r0",)), ("n0", "not", ("r0",))]
        for at in (1, 2, 3):
            gates.append((f"c{at}", "and", (f"c{at - 1}", bits[at])))
            gates.append((f"n{at}", "xor", (f"c{at - 1}", bits[at])))
        gates.append(("other", "not", ("c3",)))
        net = ((), tuple(gates), tuple((bits[at], 0, f"n{at}") for at in range(4)), ())
        # When it begins again the last value was seen one tick before, but not at the start.
        self.assertEqual(len(self.plain_machine(net, "c3")[2]), 17)
        self.fails(TooLarge("states", 16), machine_from, net, "c3")
        self.assertEqual(len(self.plain_machine(net, "other")[2]), 16)
        self.same(machine_from(net, "other"), self.plain_machine(net, "other"))

    def test_sizes(self):
        eight = (("a", "b", "c"), (), tuple((f"r{at}", 0, "a") for at in range(5)), ())
        nine = (("a", "b", "c"), (), tuple((f"r{at}", 0, "a") for at in range(6)), ())
        four = (("a", "b", "c", "d"), (), (), ())
        self.assertEqual(len(machine_from(eight, "r4")[2]), 4)
        self.fails(TooLarge("small", 8), machine_from, nine, "r4")
        self.fails(TooLarge("small", 8), machine_from, nine, "q")
        self.fails(TooLarge("names", 3), machine_from, four, "a")
        self.fails(TooLarge("names", 3), machine_from, four, "q")
        self.fails(TooLarge("small", 8), machine_from, BIG, "q")
        self.fails(UnknownWire("q"), machine_from, eight, "q")
        self.fails(UnknownWire("r"), machine_from, eight, "r")

    def test_order_of_errors(self):
        self.fails(BadNet("unknown", "q"), machine_from, FAULT, "z")
        self.fails(BadNet("ring", "x"), machine_from, RING, "z")


if __name__ == "__main__":
    unittest.main()

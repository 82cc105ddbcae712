"""Points 35, 44, 45, 52, 53, 55, 70, 73 and 74, and what the interface says of bench.py."""

import random
import time
import unittest

from checks import CheckCase
from limits import FROM_MARKED, FUSE_201, OPTIONS, THEN_201, pattern
from plain_patterns import (ANY, EMPTY as EMPTY_NODE, NEVER, NOT_A, SEE_A, SEE_B, Plain, chain_of,
                            random_pattern, tree_of)
from samples import (COUNTER, EMPTY, FAULT, FAULT_AND_RING, RING, plain_outputs, plain_run,
                     random_net, random_row, random_stimulus, wires_of)
from wirewatch.bench import Bench
from wirewatch.errors import (BadIndex, BadName, BadNet, BadPattern, BadRow, NameTaken, NothingLeft,
                              TooLarge, UnknownName, UnknownWire)
from wirewatch.making import flag_machine
from wirewatch.patterns import names_of
from wirewatch.stimuli import coverage, record_of
from wirewatch.watch import attach, machine_flags, plain_flags

NET = (("a", "b"), (("x", "and", ("a", "b")), ("u1.y", "not", ("x",))), (("r", 0, "x"),), ("u1.y", "r"))
PATTERN = ("then", SEE_A, NOT_A)
IN_NET = ("then", ("see", (("x", 1),)), ("see", (("r", 1), ("u1.y", 1))))


class PlainBench:
    """What a bench shows, worked out from its done deeds each time."""

    def __init__(self, net):
        self.net = net
        self.deeds = []
        self.undone = []

    def do(self, *deed):
        self.deeds.append(deed)
        self.undone = []

    def rows(self):
        return tuple(deed[1] for deed in self.deeds if deed[0] == "feed")

    def watches(self):
        found = {}
        for deed in self.deeds:
            if deed[0] == "watch":
                found[deed[1]] = deed[2:]
            elif deed[0] == "unwatch":
                del found[deed[1]]
        return found


class BenchCase(CheckCase):
    def check_bench(self, bench, plain):
        rows, watches = plain.rows(), plain.watches()
        net = plain.net
        ticks, states = plain_run(net, rows)
        outs = tuple(plain_outputs(net, row, state) for row, state in zip(rows, states))
        self.same(bench.stimulus, rows)
        self.same(bench.current, states[-1])
        self.same(bench.names, tuple(watches))
        self.same(bench.done, len(plain.deeds))
        self.same(len(bench), len(rows))
        self.same(tuple(bench), outs)
        self.same(bench.record(), (net[0], net[3], tuple(zip(rows, outs))))
        for wire in wires_of(net):
            self.same(bench[wire], tuple(values[wire] for values in ticks))
        for name, (node, from_start, sticky) in watches.items():
            view = (names_of(node), tuple(tuple(values[wire] for wire in names_of(node)) for values in ticks))
            self.same(bench.flags(name), Plain(view).flags(node, from_start, sticky))
        found = bench.coverage()
        self.assertTrue(found == coverage(net, (rows,)))

    def check_circuit(self, bench, plain):
        for one_hot in (False, True):
            net = plain.net
            for name, (node, from_start, sticky) in plain.watches().items():
                net = attach(net, node, name, from_start=from_start, sticky=sticky, one_hot=one_hot)
            self.same(bench.circuit(one_hot=one_hot), net)
        self.same(bench.circuit(), bench.circuit(one_hot=False))


class PlayTest(BenchCase):
    def test_example(self):
        bench = Bench((("a",), (), (), ("a",)))
        self.same(bench.feed((1,)), (1,))
        self.same(bench.feed((0,)), (0,))
        self.same(bench.undo_to(1), None)
        self.same(bench.stimulus, ((1,),))

    def test_new(self):
        for net in (NET, EMPTY, COUNTER):
            self.check_bench(Bench(net), PlainBench(net))
            self.same(Bench(net).circuit(), net)

    def test_feed(self):
        bench = Bench(COUNTER)
        self.same(bench.feed((1,)), (0, 0, 0, 1))
        self.same(bench.feed((1,)), (0, 1, 1, 1))
        self.same(bench.current, (0, 1))
        self.same(bench["r1"], (0, 0))
        self.same(bench["carry"], (0, 1))
        self.same(list(bench), [(0, 0, 0, 1), (0, 1, 1, 1)])
        self.same(bench.record(), record_of(COUNTER, ((1,), (1,))))
        self.fails(UnknownWire("z"), lambda: bench["z"])
        self.fails(UnknownWire(""), lambda: bench[""])

    def test_nets_that_are_not_sound(self):
        self.fails(BadNet("unknown", "q"), Bench, FAULT)
        self.fails(BadNet("ring", "x"), Bench, RING)
        self.fails(BadNet("twice", "x"), Bench, FAULT_AND_RING)

    def test_300_rows(self):
        bench = Bench((("a",), (), (("r", 0, "a"),), ("r",)))
        for tick in range(300):
            bench.feed((tick % 2,))
        for _ in range(2):
            self.fails(TooLarge("ticks", 300), bench.feed, (1,))
            self.fails(BadRow((2,)), bench.feed, (2,))
            self.same(len(bench), 300)
        bench.watch("w", ANY)
        self.fails(TooLarge("ticks", 300), bench.feed, (1,))
        bench.undo()
        bench.undo()
        self.same(len(bench), 299)
        self.same(bench.feed((1,)), (0,))
        self.fails(TooLarge("ticks", 300), bench.feed, (1,))
        bench.undo_to(0)
        self.same(bench.stimulus, ())
        for tick in range(300):
            bench.redo()
        self.fails(TooLarge("ticks", 300), bench.feed, (1,))
        self.same(bench.done, 300)

    def test_wrong_rows(self):
        bench = Bench(NET)
        for row in ((), (1,), (1, 0, 1), (0, 2), (-1, 0)):
            self.fails(BadRow(row), bench.feed, row)
        self.same(bench.done, 0)
        self.check_bench(bench, PlainBench(NET))


class WatchTest(BenchCase):
    def test_flags_of_late_watches(self):
        rows = ((1, 0), (0, 0), (0, 1), (1, 1), (0, 0), (1, 0), (0, 1))
        for from_start, sticky in OPTIONS:
            bench = Bench(NET)
            for row in rows[:4]:
                bench.feed(row)
            self.same(bench.watch("w", PATTERN, from_start=from_start, sticky=sticky), None)
            due = plain_flags(NET, PATTERN, rows, from_start=from_start, sticky=sticky)
            self.same(bench.flags("w"), due[:4])
            for row in rows[4:]:
                bench.feed(row)
            self.same(bench.flags("w"), due)
            bench.undo_to(2)
            bench.watch("v", IN_NET, from_start=from_start, sticky=sticky)
            self.same(bench.flags("v"), plain_flags(NET, IN_NET, rows[:2], from_start=from_start, sticky=sticky))
        bench = Bench(NET)
        bench.watch("w", PATTERN)
        self.same(bench.flags("w"), ())

    def test_flags_of_many_ticks(self):
        source = random.Random(1)
        bench = Bench(NET)
        rows = random_stimulus(source, NET, 300)
        for row in rows:
            bench.feed(row)
        for number, (from_start, sticky) in enumerate(OPTIONS):
            for letter, node in (("p", PATTERN), ("q", IN_NET)):
                bench.watch(f"{letter}{number}", node, from_start=from_start, sticky=sticky)
                self.same(bench.flags(f"{letter}{number}"),
                          machine_flags(NET, node, rows, from_start=from_start, sticky=sticky))
        self.assertEqual(len(bench.names), 8)

    def test_the_time_of_flags(self):
        bench = Bench((("a", "b", "c"), (), (), ()))
        for tick in range(300):
            bench.feed((tick % 2, tick % 3 == 0 and 1 or 0, 0))
        bench.watch("w", ("then", SEE_A, ("then", ("times", ANY, 9, 9), SEE_B)), from_start=True)
        begin = time.perf_counter()
        for _ in range(20):
            bench.flags("w")
        self.assertLess(time.perf_counter() - begin, 2)

    def test_patterns_that_see_nothing(self):
        bench = Bench(EMPTY)
        bench.watch("any", ANY)
        bench.watch("never", NEVER)
        bench.watch("empty", EMPTY_NODE)
        bench.feed(())
        bench.feed(())
        self.same([bench.flags(name) for name in bench.names], [(1, 1), (0, 0), (0, 0)])
        self.same(bench.circuit()[3], ("any.flag", "never.flag", "empty.flag"))

    def test_errors(self):
        bench = Bench(NET)
        bench.watch("w", PATTERN)
        bad = ("see", (("a", 2),))
        over = pattern(THEN_201)
        for name in ("W", "", "w.x", "1w", "toolong1w"):
            self.fails(BadName(name), bench.watch, name, bad)
        self.fails(BadPattern("bit", bad), bench.watch, "w", bad)
        self.fails(BadPattern("kind", ("seen",)), bench.watch, "a", ("not", ("seen",)))
        self.fails(TooLarge("nodes", 16), bench.watch, "w", chain_of(17))
        self.fails(TooLarge("names", 3), bench.watch, "w", tree_of(15, ("q", "s", "t", "v")))
        self.fails(UnknownWire("q"), bench.watch, "w", ("then", ("see", (("z", 0),)), ("see", (("q", 0),))))
        # A watch sees the wires of the net only, not those of other watches.
        self.fails(UnknownWire("w.flag"), bench.watch, "v", ("see", (("w.flag", 1),)))
        for name in ("a", "x", "r", "u1", "w"):
            self.fails(NameTaken(name), bench.watch, name, over)
        self.fails(TooLarge("pairs", 200), bench.watch, "v", over)
        self.fails(TooLarge("pairs", 200), bench.watch, "v", pattern(FUSE_201), sticky=True)
        self.fails(TooLarge("states", 16), bench.watch, "v", pattern(FROM_MARKED), from_start=True)
        self.same(bench.names, ("w",))
        self.same(bench.done, 1)
        bench.watch("u", PATTERN)
        bench.watch("y", PATTERN)
        bench.watch("flag", PATTERN)
        self.same(bench.names, ("w", "u", "y", "flag"))

    def test_unwatch(self):
        bench = Bench(NET)
        for name in ("w", "v", "k"):
            bench.watch(name, PATTERN)
        self.same(bench.unwatch("v"), None)
        self.same(bench.names, ("w", "k"))
        for text in ("v", "", "A", "a", "w.flag", "ww"):
            self.fails(UnknownName(text), bench.unwatch, text)
            self.fails(UnknownName(text), bench.flags, text)
        # A name again comes last, also with another pattern.
        bench.watch("v", IN_NET, sticky=True)
        self.same(bench.names, ("w", "k", "v"))
        bench.unwatch("w")
        bench.watch("w", PATTERN)
        self.same(bench.names, ("k", "v", "w"))
        bench.undo()
        self.fails(UnknownName("w"), bench.flags, "w")
        bench.undo()
        self.same(bench.names, ("w", "k", "v"))
        bench.undo_to(4)
        self.same(bench.names, ("w", "k"))
        bench.undo()
        self.same(bench.names, ("w", "v", "k"))
        for _ in range(4):
            bench.redo()
        self.same(bench.names, ("k", "v", "w"))


class UndoTest(BenchCase):
    def test_nothing_left(self):
        bench = Bench(NET)
        self.fails(NothingLeft("undo"), bench.undo)
        self.fails(NothingLeft("redo"), bench.redo)
        bench.feed((1, 1))
        self.fails(NothingLeft("redo"), bench.redo)
        self.same(bench.undo(), None)
        self.fails(NothingLeft("undo"), bench.undo)
        self.same(bench.redo(), None)
        self.fails(NothingLeft("redo"), bench.redo)
        self.same(bench.stimulus, ((1, 1),))

    def test_a_new_deed_forgets(self):
        for deed in (lambda bench: bench.feed((0, 0)), lambda bench: bench.watch("v", ANY),
                     lambda bench: bench.unwatch("w")):
            bench = Bench(NET)
            bench.watch("w", PATTERN)
            bench.feed((1, 1))
            bench.feed((1, 0))
            bench.undo()
            bench.undo()
            deed(bench)
            self.fails(NothingLeft("redo"), bench.redo)
            self.same(bench.done, 2)

    def test_errors_forget_nothing(self):
        bench = Bench(NET)
        bench.watch("w", PATTERN)
        bench.feed((1, 1))
        bench.feed((1, 0))
        bench.undo_to(1)
        for due, call, *args in [
                (BadRow((7,)), bench.feed, (7,)), (NameTaken("w"), bench.watch, "w", ANY), (UnknownName("q"), bench.unwatch, "q"),
                (UnknownName("q"), bench.flags, "q"), (BadIndex(2), bench.undo_to, 2), (BadIndex(-1), bench.undo_to, -1),
                (TooLarge("pairs", 200), bench.watch, "v", pattern(THEN_201))]:
            self.fails(due, call, *args)
        # What only shows something forgets nothing either.
        bench.flags("w"), bench.record(), bench.coverage(), bench.circuit(), list(bench), len(bench), bench["a"]
        bench.undo_to(1)
        bench.redo()
        bench.redo()
        self.same(bench.stimulus, ((1, 1), (1, 0)))
        self.fails(NothingLeft("redo"), bench.redo)

    def test_undo_to(self):
        bench = Bench(NET)
        for row in ((1, 1), (1, 0), (0, 1)):
            bench.feed(row)
        for count in (-1, 4, 10 ** 99):
            self.fails(BadIndex(count), bench.undo_to, count)
        self.same(bench.undo_to(3), None)
        self.same(bench.done, 3)
        bench.undo_to(1)
        self.same(bench.stimulus, ((1, 1),))
        self.fails(BadIndex(2), bench.undo_to, 2)
        bench.undo()
        bench.undo_to(0)
        # What was taken back latest is done again first, however it was taken back.
        bench.redo()
        self.same(bench.stimulus, ((1, 1),))
        bench.redo()
        bench.redo()
        self.same(bench.stimulus, ((1, 1), (1, 0), (0, 1)))

    def test_answers_stay(self):
        """What was returned before does not change with the bench."""
        bench = Bench(NET)
        bench.watch("w", PATTERN)
        bench.feed((1, 1))
        bench.feed((0, 1))
        shown = (bench.stimulus, bench.names, bench.current, bench.record(), bench.flags("w"), bench["r"])
        covered = bench.coverage()
        seen = covered.seen
        bench.undo_to(0)
        bench.feed((0, 0))
        self.same(shown, (((1, 1), (0, 1)), ("w",), (0,), record_of(NET, ((1, 1), (0, 1))), (0, 1), (0, 1)))
        self.same(covered.seen, seen)
        self.same(covered == coverage(NET, (((1, 1), (0, 1)),)), True)

    def test_two_benches(self):
        first, second = Bench(NET), Bench(NET)
        first.feed((1, 1))
        first.watch("w", PATTERN)
        self.check_bench(second, PlainBench(NET))


class CircuitTest(BenchCase):
    def test_circuit(self):
        bench, plain = Bench(NET), PlainBench(NET)
        for number, (from_start, sticky) in enumerate(OPTIONS):
            for letter, node in (("p", PATTERN), ("q", IN_NET)):
                bench.watch(f"{letter}{number}", node, from_start=from_start, sticky=sticky)
                plain.do("watch", f"{letter}{number}", node, from_start, sticky)
        bench.unwatch("q1")
        plain.do("unwatch", "q1")
        self.check_circuit(bench, plain)
        self.same(bench.circuit()[3], NET[3] + tuple(f"{name}.flag" for name in bench.names))
        source = random.Random(2)
        rows = random_stimulus(source, NET, 30)
        for row in rows:
            bench.feed(row)
        for one_hot in (False, True):
            ticks, _ = plain_run(bench.circuit(one_hot=one_hot), rows)
            for name in bench.names:
                self.same(bench.flags(name), tuple(values[f"{name}.flag"] for values in ticks))
            for wire in wires_of(NET):
                self.same(bench[wire], tuple(values[wire] for values in ticks))

    def test_large_watchers(self):
        bench = Bench((("a", "b", "c"), (), (), ()))
        for number in range(8):
            bench.watch(f"w{number}", pattern("[]* ; [a b !c] ; []{3}"), from_start=True)
        self.assertEqual(len(bench.circuit(one_hot=True)[2]), 8 * len(
            flag_machine(pattern("[]* ; [a b !c] ; []{3}"), from_start=True)[2]))


class AnyOrderTest(BenchCase):
    def step(self, source, bench, plain):
        """One call, and what it does to the plain bench."""
        names, watches = ("w", "v", "k", "m"), plain.watches()
        kind = source.choice(("feed", "feed", "feed", "watch", "watch", "unwatch", "undo", "undo", "redo", "redo",
                              "undo_to", "wrong"))
        if kind == "feed":
            row = random_row(source, len(plain.net[0]))
            due = plain_outputs(plain.net, row, plain_run(plain.net, plain.rows())[1][-1])
            self.same(bench.feed(row), due)
            plain.do("feed", row)
        elif kind == "watch":
            name, node = source.choice(names), random_pattern(source, source.randrange(1, 6))
            options = source.choice(OPTIONS)
            if name in watches:
                self.fails(NameTaken(name), bench.watch, name, node)
                return
            try:
                bench.watch(name, node, from_start=options[0], sticky=options[1])
            except TooLarge:
                return
            plain.do("watch", name, node, *options)
        elif kind == "unwatch":
            name = source.choice(names)
            if name in watches:
                bench.unwatch(name)
                plain.do("unwatch", name)
            else:
                self.fails(UnknownName(name), bench.unwatch, name)
        elif kind == "undo":
            if plain.deeds:
                bench.undo()
                plain.undone.append(plain.deeds.pop())
            else:
                self.fails(NothingLeft("undo"), bench.undo)
        elif kind == "redo":
            if plain.undone:
                bench.redo()
                plain.deeds.append(plain.undone.pop())
            else:
                self.fails(NothingLeft("redo"), bench.redo)
        elif kind == "undo_to":
            count = source.randrange(max(0, len(plain.deeds) - 3), len(plain.deeds) + 1)
            bench.undo_to(count)
            while len(plain.deeds) > count:
                plain.undone.append(plain.deeds.pop())
        else:
            self.fails(BadRow((7,)), bench.feed, (7,))
            self.fails(BadIndex(len(plain.deeds) + 1), bench.undo_to, len(plain.deeds) + 1)
            self.fails(NameTaken("a"), bench.watch, "a", ANY)

    def test_any_order(self):
        source = random.Random(3)
        for _ in range(25):
            net = random_net(source, source.randrange(2), source.randrange(6), source.randrange(4))
            net = (net[0] + ("a", "b"),) + net[1:]
            bench, plain = Bench(net), PlainBench(net)
            for _ in range(40):
                self.step(source, bench, plain)
                self.check_bench(bench, plain)
            self.check_circuit(bench, plain)


if __name__ == "__main__":
    unittest.main()

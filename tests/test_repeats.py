"""Equal calls give equal answers, and no argument is changed (points 2 and 3)."""

import copy
import unittest

from checks import CheckCase, kinds
from samples import COUNTER
from wirewatch import (always, bench, diagrams, joining, logic, machines, making, moving,
                       pattern_text, patterns, reach, rewrite, runs, sharing, steps, stimuli, timing, watch)
from wirewatch.words import Word

XOR = (4, ((1, 0, 1), (1, 1, 0), (0, 2, 3)))
OTHER = (("r1", "new"), (("p", "and", ("r1", "new")),), (("s", 1, "p"),), ("p", "s"))
BUFS = (("a",), (("x", "buf", ("a",)), ("y", "and", ("x", "x"))), (("r", 0, "x"),), ("y",))
SEE = ("see", (("a", 1), ("b", 0)))
PATTERN = ("then", ("times", SEE, 0, None), ("not", ("within", ("fuse", SEE, ("see", ())), 2)))
VIEW = (("b", "a"), ((0, 1), (0, 1), (1, 1), (1, 0)))
UPS = ((1,), (0,), (1,), (1,))
UP = ("then", ("see", (("up", 1),)), ("see", (("up", 0), ("lo", 1))))
MACHINE = (("a", "b"), ((0, 1, 0, 2), (1, 2, 2, 0), (2, 2, 1, 0)), (0, 1, 1))
# Two registers change places, and a gate that is 1 where both are.
HELD = ((), (("k", "and", ("r", "s")),), (("r", 1, "s"), ("s", 0, "r"), ("t", 0, "k")), ("k",))
ALIKE = (("a",), (("g", "and", ("a", "r")), ("h", "and", ("s", "a"))), (("r", 0, "g"), ("s", 0, "h")), ("h", "s"))

CALLS = [
    (logic.evaluate, COUNTER, (1,), (0, 1)), (logic.next_state, COUNTER, (1,), (0, 1)),
    (logic.output_row, COUNTER, (1,), (0, 1)), (logic.wire_table, COUNTER, "hi"),
    (logic.difference, COUNTER, COUNTER[:3] + (("r1", "r0", "lo", "up"),)),
    (logic.is_difference, COUNTER, COUNTER, (1,), (0, 0)),
    (diagrams.is_diagram, 2, XOR), (diagrams.diagram_of, Word(8, 0b01101001)),
    (diagrams.diagram_table, 3, XOR), (diagrams.diagram_value, (1, 0, 1), XOR),
    (diagrams.combine, 3, "or", XOR, (2, ((2, 0, 1),))), (diagrams.restrict, 3, XOR, 1, 1),
    (diagrams.count_ones, 3, XOR), (diagrams.least_row, 3, XOR), (diagrams.canonical_net, COUNTER),
    (steps.local_table, COUNTER, "hi"), (steps.steps, BUFS), (steps.apply_step, BUFS, ("skip", "y")),
    (steps.price, BUFS), (rewrite.apply_chain, BUFS, (("skip", "y"), ("skip", "r"))),
    (rewrite.trail, BUFS, (("skip", "y"), ("skip", "r"))), (rewrite.is_chain, BUFS, (), BUFS),
    (rewrite.is_settled, BUFS), (rewrite.rewrite, BUFS),
    (timing.with_enable, COUNTER, "en"), (timing.with_reset, COUNTER, "en"), (timing.unroll, COUNTER, 3),
    (timing.after_row, COUNTER, (1,)), (timing.add_delay, COUNTER, "hi", 2, "d"),
    (joining.join_nets, COUNTER, OTHER), (joining.with_outputs, COUNTER, ("hi",)),
    (joining.cone, COUNTER, ("lo",)), (joining.cut, COUNTER, "lo", "n"), (joining.tie, OTHER, "new", "s"),
    (patterns.pattern_fault, PATTERN), (patterns.pattern_fault, ("not", ("seen",))),
    (patterns.check_pattern, PATTERN), (patterns.node_count, PATTERN), (patterns.names_of, PATTERN),
    (patterns.holds, PATTERN, VIEW, 0, 3), (patterns.stretches, PATTERN, VIEW), (patterns.flags, PATTERN, VIEW),
    (pattern_text.pattern_text, PATTERN), (pattern_text.parse_pattern, "[a !b]* ; ~([a !b] : [])@2"),
    (machines.machine_fault, MACHINE), (machines.machine_fault, (("a",), (), ())), (machines.check_machine, MACHINE),
    (machines.state_after, MACHINE, (3, 1)), (machines.accepts, MACHINE, (3, 1)), (machines.least, MACHINE),
    (machines.flip, MACHINE), (machines.combine_machines, "xor", MACHINE, MACHINE[:2] + ((1, 1, 0),)),
    (machines.turn, MACHINE), (machines.widen, MACHINE, ("c", "b", "a")), (machines.shortest_row, MACHINE),
    (machines.telling_row, MACHINE, MACHINE[:2] + ((0, 0, 1),)), (machines.is_telling, MACHINE, MACHINE, (1, 2)),
    (machines.count_rows, MACHINE, 60), (machines.letters_of, VIEW),
    (making.machine_of, PATTERN), (making.flag_machine, PATTERN),
    (watch.watcher, MACHINE, "n"), (watch.attach, COUNTER, UP, "n"), (watch.plain_flags, COUNTER, UP, UPS),
    (watch.machine_flags, COUNTER, UP, UPS), (watch.machine_from, COUNTER, "hi"),
    (reach.levels, COUNTER), (reach.reached, COUNTER), (reach.path_to, COUNTER, (1, 1)),
    (reach.is_path, COUNTER, UPS, (1, 1)),
    (always.never, COUNTER, "hi"), (always.failing_run, COUNTER, "hi"), (always.is_failing, COUNTER, "hi", UPS),
    (always.safe_states, HELD, "k"), (always.is_invariant, HELD, "k", ((1, 0, 0), (0, 1, 0))),
    (always.find_layers, HELD, "k"), (always.is_layers, HELD, "k", (((1, 0, 0),), ((0, 1, 0),))),
    (always.rounds, HELD, "k"), (always.is_inductive, HELD, "k", 3),
    (always.run_difference, COUNTER, COUNTER[:3] + (("r1", "r0", "lo", "up"),)),
    (always.is_run_difference, COUNTER, COUNTER, UPS),
    (moving.find_moves, COUNTER), (moving.move_forward, HELD, "k", "n"), (moving.move_back, COUNTER, "r1", "n"),
    (moving.apply_moves, COUNTER, (("back", "r1", "n"), ("back", "r0", "m"))),
    (sharing.register_classes, ALIKE), (sharing.is_register_classes, ALIKE, (("r", "s"),)),
    (sharing.merge_registers, ALIKE), (sharing.share_gates, ALIKE),
    (stimuli.stimulus_text, ("up",), UPS), (stimuli.parse_stimulus, "in up\n1 * 12\n0\n"),
    (stimuli.record_of, COUNTER, UPS), (stimuli.record_text, stimuli.record_of(COUNTER, UPS)),
    (stimuli.parse_record, "in a\nout b\n1 0\n"), (stimuli.replay, COUNTER, stimuli.record_of(COUNTER, UPS)),
    (stimuli.replay, COUNTER, (("up",), COUNTER[3], (((1,), (1, 0, 0, 1)),))),
    (stimuli.reductions, UPS), (stimuli.is_below, UPS[1:], UPS), (stimuli.is_smallest, COUNTER, "lo", UPS[:1]),
    (stimuli.shrink, COUNTER, "lo", ((1,), (1,), (1,))),
]


class RepeatsTest(CheckCase):
    def test_calls(self):
        for call, *args in CALLS:
            with self.subTest(call.__name__):
                before = copy.deepcopy(args)
                first = call(*args)
                due = copy.deepcopy(kinds(first))
                if isinstance(first, dict):
                    first.clear()
                self.assertEqual(kinds(call(*args)), due)
                self.assertEqual(kinds(call(*copy.deepcopy(before))), due)
                self.same(args, before)

    def test_runs(self):
        rows = ((1,), (0,), (1,))
        first, second = runs.run(COUNTER, rows), runs.run(COUNTER, rows)
        first.at(0).clear()
        self.same(first.rows, second.rows)
        for tick in range(3):
            self.same(first.at(tick), second.at(tick))
            self.same(first.at(tick), first.at(tick))
        self.same(first.view(("lo", "up")), second.view(("lo", "up")))

    def test_coverages(self):
        first, second = stimuli.coverage(COUNTER, (UPS, ())), stimuli.coverage(COUNTER, (UPS, ()))
        shown = kinds((first.seen, first.missing, first.visited))
        self.assertEqual(kinds((second.seen, second.missing, second.visited)), shown)
        both = first | stimuli.coverage(COUNTER, (UPS * 3,))
        self.assertEqual(kinds((both.seen, both.missing, both.visited)),
                         kinds(((first | both).seen, (both | first).missing, (both | both).visited)))
        self.assertEqual(kinds((first.seen, first.missing, first.visited)), shown)

    def test_benches(self):
        first, second = bench.Bench(COUNTER), bench.Bench(COUNTER)
        for row in UPS:
            self.same(first.feed(row), second.feed(row))
        for made in (first, second):
            made.watch("w", UP)
        for show in (lambda made: (made.stimulus, made.current, made.names, made.done, made.flags("w")),
                     lambda made: (made.record(), made.circuit(), made["hi"], tuple(made), len(made))):
            self.same(show(first), show(second))
            self.same(show(first), show(first))


if __name__ == "__main__":
    unittest.main()

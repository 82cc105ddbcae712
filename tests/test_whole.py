"""Point 1 over the whole program: all parts agree about every run."""

import doctest
import pathlib
import random
import unittest

from checks import CheckCase
from limits import OPTIONS
from plain_patterns import Plain, random_pattern
from samples import plain_run, random_net, random_stimulus, wires_of
from wirewatch.always import failing_run, is_run_difference, never, run_difference
from wirewatch.bench import Bench
from wirewatch.diagrams import canonical_net
from wirewatch.errors import TooLarge
from wirewatch.joining import cone
from wirewatch.logic import difference
from wirewatch.machines import accepts, least, letters_of
from wirewatch.making import flag_machine
from wirewatch.moving import apply_moves, find_moves
from wirewatch.pattern_text import parse_pattern, pattern_text
from wirewatch.patterns import flags, names_of
from wirewatch.reach import path_to, reached
from wirewatch.reader import net_text, parse_net
from wirewatch.rewrite import rewrite
from wirewatch.runs import Simulator, run
from wirewatch.sharing import merge_registers, share_gates
from wirewatch.stimuli import coverage, parse_stimulus, record_of, replay, shrink, stimulus_text
from wirewatch.watch import attach, machine_flags, machine_from, plain_flags

README = pathlib.Path(__file__).resolve().parent.parent / "README.md"


def some_nets(seed, count, regs=4):
    source = random.Random(seed)
    for _ in range(count):
        yield source, random_net(source, source.randrange(1, 4), source.randrange(2, 9), source.randrange(regs))


def other_nets(source, net):
    """The nets that must have the same runs as the given one, by what made them."""
    moves, now = [], net
    for number in range(3):
        possible = find_moves(now)
        if possible:
            direction, wire = source.choice(possible)
            moves.append((direction, wire, f"m{number}"))
            now = apply_moves(now, (moves[-1],))
    found = {"rewritten": rewrite(net)[0], "canonical": canonical_net(net), "moved": apply_moves(net, tuple(moves)),
             "merged": merge_registers(net), "shared": share_gates(net), "read": parse_net(net_text(net)),
             "cone": cone(net, net[3])}
    found["all"] = share_gates(merge_registers(rewrite(canonical_net(net))[0]))
    return found


class RunsTest(CheckCase):
    def test_changed_nets_have_the_same_runs(self):
        for source, net in some_nets(1, 80):
            stimulus = random_stimulus(source, net, 9)
            due = run(net, stimulus)
            for name, other in other_nets(source, net).items():
                with self.subTest(name=name):
                    found = run(other, stimulus)
                    self.same(found.rows, due.rows)
                    for wire in set(wires_of(other)) & set(wires_of(net)):
                        # A canonical net may give other values only to what it does not keep.
                        if wire in net[0] + net[3] or name not in ("canonical", "all"):
                            self.same(found[wire], due[wire])
                    self.same(is_run_difference(net, other, stimulus), False)
                    self.same(replay(other, record_of(net, stimulus)), None)
                    if len(net[0]) + len(net[2]) + len(other[2]) <= 8:
                        self.same(run_difference(net, other), None)
            for name in ("rewritten", "canonical", "shared"):
                self.same(difference(net, other_nets(source, net)[name]), None)

    def test_runs_simulators_and_benches(self):
        for source, net in some_nets(2, 30):
            stimulus = parse_stimulus(stimulus_text(net[0], random_stimulus(source, net, 12)))[1]
            played, simulator, bench = run(net, stimulus), Simulator(net), Bench(net)
            for tick, row in enumerate(stimulus):
                self.same(simulator.step(row), played.rows[tick])
                self.same(bench.feed(row), played.rows[tick])
                self.same(bench.current, simulator.state)
            for wire in wires_of(net):
                self.same(bench[wire], played[wire])
            self.same(bench.record(), record_of(net, stimulus))
            self.same(bench.coverage() == coverage(net, (stimulus,)), True)


class FlagsTest(CheckCase):
    def test_all_flags_are_equal(self):
        made = 0
        for number, (source, net) in enumerate(some_nets(3, 120)):
            net = (net[0] + ("a", "b"),) + net[1:]
            node = random_pattern(source, source.randrange(1, 9), ("a", "b", net[0][0]))
            from_start, sticky = OPTIONS[number % 4]
            options = {"from_start": from_start, "sticky": sticky}
            stimulus = random_stimulus(source, net, source.randrange(14))
            view = run(net, stimulus).view(names_of(node))
            due = Plain(view).flags(node, from_start, sticky)
            self.same(flags(node, view, **options), due)
            self.same(plain_flags(net, node, stimulus, **options), due)
            self.same(parse_pattern(pattern_text(node)), node)
            try:
                machine = flag_machine(node, **options)
            except TooLarge as caught:
                self.fails(caught, machine_flags, net, node, stimulus, **options)
                continue
            made += 1
            letters = letters_of(view)
            self.same(tuple(int(accepts(machine, letters[:tick + 1])) for tick in range(len(letters))), due)
            self.same(machine_flags(net, node, stimulus, **options), due)
            bench = Bench(net)
            for row in stimulus:
                bench.feed(row)
            bench.watch("w", node, **options)
            self.same(bench.flags("w"), due)
            for one_hot in (False, True):
                joined = attach(net, node, "w", one_hot=one_hot, **options)
                self.same(tuple(values["w.flag"] for values in plain_run(joined, stimulus)[0]), due)
                self.same(bench.circuit(one_hot=one_hot), joined)
        self.assertGreater(made, 60)

    def test_the_machine_of_a_flag_is_the_flag_machine(self):
        made = 0
        for number, (source, _) in enumerate(some_nets(4, 80)):
            node = random_pattern(source, source.randrange(1, 6))
            from_start, sticky = OPTIONS[number % 4]
            try:
                machine = flag_machine(node, names=("a", "b"), from_start=from_start, sticky=sticky)
            except TooLarge:
                continue
            joined = attach((("a", "b"), (), (), ()), node, "w", from_start=from_start, sticky=sticky)
            if len(joined[2]) <= 6 and len(machine[2]) <= 15:
                made += 1
                self.same(machine_from(joined, "w.flag"), least(machine))
        self.assertGreater(made, 30)

    def test_what_never_happens(self):
        """A flag that never fails is 0 in every run, and one that fails has a least run."""
        made = 0
        for source, net in some_nets(5, 80, regs=3):
            node = random_pattern(source, source.randrange(2, 6), sorted({net[0][0], net[3][0]}))
            try:
                joined = attach(net, node, "w", sticky=True)
            except TooLarge:
                continue
            if len(joined[0]) + len(joined[2]) > 8:
                continue
            made += 1
            found = failing_run(joined, "w.flag")
            self.assertEqual(found is None, never(joined, "w.flag"))
            if found is None:
                self.assertNotIn(1, machine_flags(net, node, random_stimulus(source, net, 60), sticky=True))
            else:
                self.same(machine_flags(net, node, found, sticky=True), (0,) * (len(found) - 1) + (1,))
                if len(found) <= 12:
                    self.same(shrink(joined, "w.flag", found), found)
        self.assertGreater(made, 30)

    def test_reached_states_and_coverage(self):
        for source, net in some_nets(6, 40):
            states = reached(net)
            paths = tuple(path_to(net, state) for state in states)[:12]
            visited = coverage(net, paths).visited
            for state, path in zip(states, paths):
                self.assertIn(state, visited)
                self.same(run(net, path).last_state, state)
            self.assertLessEqual(set(visited), set(states))


class ReadmeTest(unittest.TestCase):
    def test_examples(self):
        text = "\n".join("" if line == "```" else line for line in README.read_text().split("\n"))
        examples = doctest.DocTestParser().get_doctest(text, {}, "README", "README.md", 0)
        self.assertGreater(len(examples.examples), 10)
        found = doctest.DocTestRunner(verbose=False).run(examples)
        self.assertEqual(found.failed, 0)


if __name__ == "__main__":
    unittest.main()

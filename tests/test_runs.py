"""runs.py: runs and the simulator (points 35 and 36)."""

import copy
import random
import unittest

import samples
from checks import CheckCase
from samples import BIG, COUNTER, EMPTY, FAULT, FAULT_AND_RING, RING
from wirewatch.errors import BadIndex, BadNet, BadRow, TooLarge, UnknownWire
from wirewatch.runs import Run, Simulator, run

UP = ((1,), (1,), (0,), (1,), (1,))
NO_WIRES = ("", "z", "UP", "up.", "u", "a b", "\n", "r0.r1")


class RunTest(CheckCase):
    def check(self, net, stimulus, state=None):
        found = run(net, stimulus, state=state)
        ticks, states = samples.plain_run(net, stimulus, state)
        self.assertIs(type(found), Run)
        rows = tuple(tuple(values[wire] for wire in net[3]) for values in ticks)
        self.same(found.rows, rows)
        self.same(tuple(found), rows)
        self.same(len(found), len(stimulus))
        self.same(found.last_state, states[-1])
        for wire in samples.wires_of(net):
            self.same(found[wire], tuple(values[wire] for values in ticks))
        for tick, values in enumerate(ticks):
            self.same(found.at(tick), values)
        for tick, due in enumerate(states):
            self.same(found.state_at(tick), due)
        self.same(found.view(net[3]), (net[3], rows))

    def test_a_counter(self):
        found = run(COUNTER, UP)
        self.same(found.rows, ((0, 0, 0, 1), (0, 1, 1, 1), (1, 0, 0, 0), (1, 0, 0, 1), (1, 1, 1, 1)))
        self.same(found.last_state, (0, 0))
        self.same(found["r1"], (0, 0, 1, 1, 1))
        self.same(found.at(1), {"up": 1, "r0": 1, "r1": 0, "carry": 1, "lo": 0, "hi": 1})
        self.same([found.state_at(tick) for tick in range(6)],
                  [(0, 0), (1, 0), (0, 1), (0, 1), (1, 1), (0, 0)])
        self.check(COUNTER, UP)

    def test_states_that_are_given(self):
        for state in samples.rows_of(2):
            self.check(COUNTER, UP, state)
            self.same(run(COUNTER, (), state=state).last_state, state)
        net = (("a",), (), (("r", 1, "a"), ("s", 0, "r")), ("s",))
        self.same(run(net, ((0,), (0,))).rows, ((0,), (1,)))
        self.same(run(net, ((0,), (0,)), state=None).rows, ((0,), (1,)))
        self.same(run(net, ((0,), (0,)), state=(0, 1)).rows, ((1,), (0,)))

    def test_many_runs(self):
        source = random.Random(1)
        for _ in range(150):
            net = samples.random_net(source, source.randrange(4), source.randrange(9),
                                     source.randrange(4))
            state = source.choice((None, samples.random_row(source, len(net[2]))))
            self.check(net, samples.random_stimulus(source, net, source.randrange(6)), state)

    def test_sizes_of_stimuli(self):
        source = random.Random(2)
        for ticks in (0, 1, 299, 300):
            self.check(COUNTER, samples.random_stimulus(source, COUNTER, ticks))
        rows = ((0,),) * 301
        self.fails(TooLarge("ticks", 300), run, COUNTER, rows)
        self.fails(BadRow((2,)), run, COUNTER, rows[1:] + ((2,),))
        self.fails(BadRow((0, 0)), run, COUNTER, rows + ((0, 0), (3,)))
        self.fails(TooLarge("ticks", 300), run, EMPTY, ((),) * 301)
        self.same(len(run(EMPTY, ((),) * 300)), 300)
        self.same(run(EMPTY, ((), ())).rows, ((), ()))

    def test_the_empty_stimulus(self):
        found = run(COUNTER, ())
        self.same(found.rows, ())
        self.same(list(found), [])
        self.same(len(found), 0)
        self.same(found.last_state, (0, 0))
        self.same(found.state_at(0), (0, 0))
        self.same(found["carry"], ())
        self.same(found.view(("carry", "up")), (("carry", "up"), ()))
        self.fails(BadIndex(0), found.at, 0)
        self.fails(BadIndex(1), found.state_at, 1)
        self.fails(UnknownWire("z"), found.__getitem__, "z")
        self.fails(UnknownWire("z"), found.view, ("z",))

    def test_iterations_side_by_side(self):
        found = run(COUNTER, UP)
        self.same([(one, other) for one in found for other in found],
                  [(one, other) for one in found.rows for other in found.rows])
        first, second = iter(found), iter(found)
        next(first)
        self.same(next(second), found.rows[0])
        self.same(next(first), found.rows[1])

    def test_ticks_out_of_range(self):
        found = run(COUNTER, UP)
        for tick in (-1, -5, -6, 5, 6, 10 ** 99):
            self.fails(BadIndex(tick), found.at, tick)
        for tick in (-1, -6, 6, 7, 10 ** 99):
            self.fails(BadIndex(tick), found.state_at, tick)
        self.same(found.state_at(5), (0, 0))

    def test_wires_and_views(self):
        found = run(COUNTER, UP)
        for wire in NO_WIRES:
            self.fails(UnknownWire(wire), found.__getitem__, wire)
            self.fails(UnknownWire(wire), found.view, (wire,))
            self.fails(UnknownWire(wire), found.view, ("up", wire, "q"))
        self.same(found.view(()), ((), ((),) * 5))
        self.same(found.view(("up", "r1")), (("up", "r1"), ((1, 0), (1, 0), (0, 1), (1, 1), (1, 1))))
        self.same(found.view(("r1", "up")), (("r1", "up"), ((0, 1), (0, 1), (1, 0), (1, 1), (1, 1))))
        self.same(found.view(("hi",)), (("hi",), ((0,), (1,), (1,), (1,), (0,))))

    def test_it_never_changes(self):
        before = copy.deepcopy((COUNTER, UP))
        found = run(COUNTER, UP)
        values = found.at(1)
        due = dict(values)
        values["up"] = 5
        del values["hi"]
        values["q"] = 0
        self.same(found.at(1), due)
        self.same(found["up"], (1, 1, 0, 1, 1))
        self.fails(UnknownWire("q"), found.__getitem__, "q")
        self.same(found["hi"], run(COUNTER, UP)["hi"])
        self.same((COUNTER, UP), before)

    def test_order_of_errors(self):
        for net, error in ((FAULT, BadNet("unknown", "q")), (RING, BadNet("ring", "x")),
                           (FAULT_AND_RING, BadNet("twice", "x"))):
            self.fails(error, run, net, ((2,),) * 301, state=(2,))
        for row in ((), (2,), (-1,), (0, 0)):
            self.fails(BadRow(row), run, COUNTER, ((0,), row, (5,)), state=(9, 9))
            self.fails(BadRow(row), run, COUNTER, ((0,),) * 400 + (row,), state=(9, 9))
        self.fails(TooLarge("ticks", 300), run, COUNTER, ((0,),) * 301, state=(9, 9))
        for state in ((), (0,), (0, 2), (-1, 0), (0, 0, 0)):
            self.fails(BadRow(state), run, COUNTER, UP, state=state)
            self.fails(BadRow(state), run, COUNTER, (), state=state)
        self.fails(BadRow((0,)), run, EMPTY, (), state=(0,))
        self.same(run(EMPTY, (), state=()).last_state, ())

    def test_large_nets(self):
        net = samples.chain(2000, -1)
        found = run(net, ((1,), (0,)) * 150)
        self.same(found.rows, ((1,), (0,)) * 150)
        net = samples.wide_net()
        found = run(net, ((0,) * 300, (1,) + (0,) * 299), state=(0,) * 150)
        self.same(found["g0"], (0, 1))
        self.same(found["g5"], (0, 1))
        self.same(found["g300"], (0, 0))
        self.same(found.state_at(1), (0,) * 150)
        self.same(len(found.rows[0]), 300)


class PlainSimulator:
    """The simulator as point 35 and its entry tell it, with a copy of all for each step."""

    def __init__(self, net):
        self.net, self.tick = net, 0
        self.state = tuple(reg[1] for reg in net[2])
        self.before = {}

    def step(self, row):
        self.before[self.tick] = self.state
        outs = samples.plain_outputs(self.net, row, self.state)
        self.state = samples.plain_next(self.net, row, self.state)
        self.tick += 1
        return outs

    def back(self, count):
        if count:
            self.tick -= count
            self.state = self.before[self.tick]


class SimulatorTest(CheckCase):
    def stands(self, found, tick, state):
        self.same((found.tick, found.state), (tick, state))

    def test_steps(self):
        found = Simulator(COUNTER)
        self.stands(found, 0, (0, 0))
        due = run(COUNTER, UP)
        for tick, row in enumerate(UP):
            self.stands(found, tick, due.state_at(tick))
            for wire in samples.wires_of(COUNTER):
                self.same(found.peek(row, wire), due[wire][tick])
            self.same(found.step(row), due.rows[tick])
        self.stands(found, 5, due.last_state)

    def test_a_state_that_is_given(self):
        found = Simulator(COUNTER, state=(1, 1))
        self.stands(found, 0, (1, 1))
        self.same(found.step((1,)), (1, 1, 1, 1))
        self.stands(found, 1, (0, 0))
        self.stands(Simulator(COUNTER, state=None), 0, (0, 0))
        self.stands(Simulator(EMPTY, state=()), 0, ())
        self.stands(Simulator((("a",), (), (("r", 1, "a"),), ())), 0, (1,))

    def test_put(self):
        found = Simulator(COUNTER)
        self.same(found.put((1, 1)), None)
        self.stands(found, 0, (1, 1))
        self.same(found.peek((0,), "r1"), 1)
        self.same(found.step((1,)), (1, 1, 1, 1))
        self.stands(found, 1, (0, 0))
        found.put((0, 1))
        found.put((1, 0))
        self.stands(found, 1, (1, 0))

    def test_peek_changes_nothing(self):
        found = Simulator(COUNTER, state=(1, 0))
        self.same(found.peek((1,), "carry"), 1)
        self.same(found.peek((0,), "carry"), 0)
        self.same(found.peek((1,), "up"), 1)
        self.same(found.peek((1,), "r0"), 1)
        self.stands(found, 0, (1, 0))

    def test_back(self):
        found = Simulator(COUNTER)
        for row in UP:
            found.step(row)
        self.same(found.back(2), None)
        self.stands(found, 3, (0, 1))
        found.back(3)
        self.stands(found, 0, (0, 0))
        self.fails(BadIndex(1), found.back, 1)
        found.step((1,))
        self.stands(found, 1, (1, 0))

    def test_back_over_what_was_put(self):
        found = Simulator(COUNTER)
        found.put((1, 0))
        found.step((1,))
        self.stands(found, 1, (0, 1))
        found.put((1, 1))
        # With 0 nothing changes, also not what was put.
        self.same(found.back(0), None)
        self.stands(found, 1, (1, 1))
        # What was put at the current tick is lost, what was put before the step is there again.
        found.back(1)
        self.stands(found, 0, (1, 0))
        found.put((0, 1))
        found.back(0)
        self.stands(found, 0, (0, 1))
        # The latest step that was made at a tick decides.
        found.step((0,))
        found.step((0,))
        found.back(2)
        self.stands(found, 0, (0, 1))

    def test_any_order(self):
        source = random.Random(3)
        for _ in range(60):
            net = samples.random_net(source, source.randrange(3), source.randrange(8),
                                     source.randrange(4))
            found, due = Simulator(net), PlainSimulator(net)
            for _ in range(60):
                row = samples.random_row(source, len(net[0]))
                deed = source.randrange(6)
                if deed < 3:
                    self.same(found.step(row), due.step(row))
                elif deed == 3:
                    due.state = samples.random_row(source, len(net[2]))
                    self.same(found.put(due.state), None)
                elif deed == 4:
                    count = source.randrange(due.tick + 1) if source.randrange(2) else 0
                    due.back(count)
                    self.same(found.back(count), None)
                elif samples.wires_of(net):
                    wire = source.choice(samples.wires_of(net))
                    self.same(found.peek(row, wire), samples.plain_values(net, row, due.state)[wire])
                self.stands(found, due.tick, due.state)

    def test_errors_change_nothing(self):
        found = Simulator(COUNTER)
        found.step((1,))
        found.put((1, 1))
        for row in ((), (2,), (-1,), (0, 0)):
            self.fails(BadRow(row), found.step, row)
            self.fails(BadRow(row), found.peek, row, "up")
            self.fails(BadRow(row), found.peek, row, "z")
        for wire in NO_WIRES:
            self.fails(UnknownWire(wire), found.peek, (0,), wire)
        for state in ((), (0,), (0, 2), (-1, 0), (0, 0, 0)):
            self.fails(BadRow(state), found.put, state)
        for count in (-1, 2, 3, 10 ** 99, -10 ** 99):
            self.fails(BadIndex(count), found.back, count)
        self.stands(found, 1, (1, 1))
        found.back(1)
        self.stands(found, 0, (0, 0))

    def test_errors_at_the_beginning(self):
        for net, error in ((FAULT, BadNet("unknown", "q")), (RING, BadNet("ring", "x")),
                           (FAULT_AND_RING, BadNet("twice", "x"))):
            self.fails(error, Simulator, net)
            self.fails(error, Simulator, net, state=(2,))
        for state in ((), (0,), (0, 2), (-1, 0), (0, 0, 0)):
            self.fails(BadRow(state), Simulator, COUNTER, state=state)
        self.fails(BadRow((0,)), Simulator, EMPTY, state=(0,))
        self.stands(Simulator(BIG), 0, (0, 1, 0))

    def test_many_steps(self):
        found = Simulator(COUNTER)
        for tick in range(400):
            self.stands(found, tick, (tick % 2, tick // 2 % 2))
            found.step((1,))
        found.back(399)
        self.stands(found, 1, (1, 0))
        found.back(1)
        self.stands(found, 0, (0, 0))

    def test_simulators_side_by_side(self):
        first, second = Simulator(COUNTER), Simulator(COUNTER)
        first.step((1,))
        self.stands(second, 0, (0, 0))
        second.put((1, 1))
        self.stands(first, 1, (1, 0))


if __name__ == "__main__":
    unittest.main()

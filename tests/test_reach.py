"""Points 5, 15, 27, 35 and 57, and what the interface says of reach.py."""

import itertools
import random
import unittest

from checks import CheckCase
from plain_reach import (ROUND, STUCK, all_states, first_of, least_paths, plain_levels, row_key,
                         stimulus_key)
from samples import (BIG, COUNTER, EMPTY, FAULT, FAULT_AND_RING, RING, plain_run, random_net,
                     random_stimulus, rows_of, wide_net)
from wirewatch.errors import BadNet, BadRow, TooLarge
from wirewatch.reach import is_path, levels, path_to, reached

NET = (("a", "b"), (("g", "or", ("a", "b")),), (("r", 0, "g"),), ("r",))


def small_nets(seed, count):
    source = random.Random(seed)
    for _ in range(count):
        inputs = source.randrange(4)
        yield source, random_net(source, inputs, source.randrange(9), source.randrange(7 - inputs))


class LevelsTest(CheckCase):
    def test_some(self):
        self.same(levels(NET), (((0,),), ((1,),)))
        self.same(levels(EMPTY), (((),),))
        self.same(levels((("a",), (), (), ("a",))), (((),),))
        self.same(levels(ROUND), (((1, 0, 0),), ((0, 1, 0),), ((0, 0, 1),)))
        self.same(levels(COUNTER), (((0, 0),), ((1, 0),), ((0, 1),), ((1, 1),)))
        self.same(levels(STUCK), (((0, 0),), ((1, 0),)))
        # Ascending by the row number, in which the last register weighs most.
        shift = (("a", "b"), (), (("r", 1, "a"), ("s", 1, "b")), ())
        self.same(levels(shift), (((1, 1),), ((0, 0), (1, 0), (0, 1))))

    def test_reached(self):
        self.same(reached(NET), ((0,), (1,)))
        self.same(reached(EMPTY), ((),))
        self.same(reached(ROUND), ((1, 0, 0), (0, 1, 0), (0, 0, 1)))
        self.same(reached(COUNTER), ((0, 0), (1, 0), (0, 1), (1, 1)))
        self.same(reached(STUCK), ((0, 0), (1, 0)))
        back = ((), (), (("x", 0, "z"), ("y", 0, "x"), ("z", 1, "y")), ())
        self.same(reached(back), ((1, 0, 0), (0, 1, 0), (0, 0, 1)))

    def test_against_the_plain_levels(self):
        for source, net in small_nets(1, 150):
            due = plain_levels(net)
            found = levels(net)
            self.same(found, due)
            flat = [state for level in found for state in level]
            self.assertEqual(len(flat), len(set(flat)))
            self.same(reached(net), tuple(sorted(flat, key=row_key)))

    def test_many_states(self):
        # A counter of eight bits without an input reaches one state at each level.
        gates, regs = [("c0", "buf", ("r0",)), ("n0", "not", ("r0",))], [("r0", 0, "n0")]
        for at in range(1, 8):
            gates += [(f"c{at}", "and", (f"c{at - 1}", f"r{at}")), (f"n{at}", "xor", (f"c{at - 1}", f"r{at}"))]
            regs.append((f"r{at}", 0, f"n{at}"))
        net = ((), tuple(gates), tuple(regs), ())
        self.same(levels(net), tuple((state,) for state in rows_of(8)))
        self.same(reached(net), tuple(rows_of(8)))
        self.same(path_to(net, (1,) * 8), ((),) * 255)
        self.same(is_path(net, ((),) * 255, (1,) * 8), True)


class PathTest(CheckCase):
    def test_some(self):
        self.same(path_to(NET, (1,)), ((1, 0),))
        self.same(path_to(NET, (0,)), ())
        self.same(path_to(EMPTY, ()), ())
        self.same(path_to(ROUND, (0, 0, 1)), ((), ()))
        self.same(path_to(ROUND, (1, 1, 0)), None)
        self.same(path_to(STUCK, (0, 1)), None)
        self.same(path_to(COUNTER, (1, 1)), ((1,), (1,), (1,)))
        # The first tick at which two paths differ decides, not the last one.
        late = (("a", "b"), (("x", "xor", ("s", "b")),), (("r", 0, "a"), ("s", 0, "r"), ("t", 0, "x")), ())
        self.same(path_to(late, (0, 1, 0)), ((1, 0), (0, 0)))
        self.same(path_to(late, (0, 0, 1)), ((0, 1),))

    def test_against_all_least_paths(self):
        for source, net in small_nets(2, 150):
            due = least_paths(net)
            for state in all_states(net):
                self.same(path_to(net, state), due.get(state))

    def test_against_all_stimuli(self):
        for source, net in small_nets(3, 60):
            rows = rows_of(len(net[0]))
            length = {1: 5, 2: 5, 4: 3, 8: 2}[len(rows)]
            best = {}
            for size in range(length + 1):
                for stimulus in itertools.product(rows, repeat=size):
                    state = plain_run(net, stimulus)[1][-1]
                    if state not in best or stimulus_key(stimulus) < stimulus_key(best[state]):
                        best[state] = stimulus
            for state, stimulus in best.items():
                self.same(path_to(net, state), stimulus)

    def test_is_path(self):
        self.same(is_path(NET, ((1, 0),), (1,)), True)
        self.same(is_path(NET, ((1, 1),), (1,)), True)
        self.same(is_path(NET, ((1, 0), (0, 0)), (1,)), False)
        self.same(is_path(NET, (), (0,)), True)
        self.same(is_path(NET, (), (1,)), False)
        self.same(is_path(EMPTY, (), ()), True)
        self.same(is_path(EMPTY, ((),) * 300, ()), True)
        for source, net in small_nets(4, 60):
            stimulus = random_stimulus(source, net, source.randrange(8))
            last = plain_run(net, stimulus)[1][-1]
            for state in all_states(net)[:16]:
                self.same(is_path(net, stimulus, state), state == last)
            self.same(is_path(net, stimulus, last), True)

    def test_is_path_need_not_be_small(self):
        self.same(is_path(BIG, ((1, 0, 0, 0, 0, 0),), (1, 0, 1)), True)
        self.same(is_path(BIG, ((1, 0, 0, 0, 0, 0),), (1, 0, 0)), False)
        self.same(is_path(BIG, (), first_of(BIG)), True)
        wide = wide_net()
        stimulus = ((1,) * 300, (0,) * 300)
        last = plain_run_of_wide(wide, stimulus)
        self.same(is_path(wide, stimulus, last), True)
        self.same(is_path(wide, stimulus, (1 - last[0],) + last[1:]), False)


def plain_run_of_wide(net, stimulus):
    """The last state, by the gates in their order of depth: they stand the other way round."""
    state = first_of(net)
    for row in stimulus:
        known = dict(zip(net[0], row))
        known.update(zip((reg[0] for reg in net[2]), state))
        for wire, _, (one, other) in net[1][::-1]:
            known[wire] = known[one] ^ known[other]
        state = tuple(known[reg[2]] for reg in net[2])
    return state


class ErrorsTest(CheckCase):
    def test_nets(self):
        for call, *args in ((levels,), (reached,), (path_to, (9, 9)), (is_path, ((9, 9),), (9, 9))):
            self.fails(BadNet("unknown", "q"), call, FAULT, *args)
            self.fails(BadNet("ring", "x"), call, RING, *args)
            self.fails(BadNet("twice", "x"), call, FAULT_AND_RING, *args)
        for call, *args in ((levels,), (reached,), (path_to, (9, 9))):
            self.fails(TooLarge("small", 8), call, BIG, *args)
        eight = (("a",), (), tuple((f"r{at}", 0, "a") for at in range(7)), ())
        self.assertEqual(len(reached(eight)), 2)

    def test_rows_and_states(self):
        for state in ((), (0, 0), (2,), (-1,), (0,) * 300):
            self.fails(BadRow(state), path_to, NET, state)
            self.fails(BadRow(state), is_path, NET, (), state)
            self.fails(BadRow(state), is_path, NET, ((0, 0),) * 300, state)
        self.fails(BadRow((0,)), path_to, EMPTY, (0,))
        self.fails(BadRow((0, 2)), is_path, NET, ((0, 0), (0, 2), (0,)), (2,))
        self.fails(BadRow((0,)), is_path, NET, ((0, 0),) * 301 + ((0,),), (2,))
        self.fails(TooLarge("ticks", 300), is_path, NET, ((0, 0),) * 301, (2,))


if __name__ == "__main__":
    unittest.main()

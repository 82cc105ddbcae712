"""Points 27, 28, 35 and 57 to 62, and what the interface says of always.py."""

import itertools
import random
import unittest

from checks import CheckCase
from plain_reach import (ROUND, STUCK, all_states, fails_at, first_of, nexts, plain_levels, row_key,
                         stimulus_key)
from samples import (BIG, COUNTER, EMPTY, FAULT, FAULT_AND_RING, RING, plain_outputs, plain_run,
                     random_net, random_stimulus, rows_of, wires_of)
from wirewatch.always import (failing_run, find_layers, is_failing, is_inductive, is_invariant,
                              is_layers, is_run_difference, never, rounds, run_difference,
                              safe_states)
from wirewatch.errors import BadIndex, BadNet, BadRow, Mismatch, TooLarge, UnknownWire

# `both` is 1 only in states that are not reached, as `r` and `s` begin as 1 and 0 and change places.
SWAP = ((), (("both", "and", ("r", "s")),), (("r", 1, "s"), ("s", 0, "r")), ())
# `late` is 1 first at the tick behind two ticks at which `a` is 1.
LATE = (("a", "b"), (("n", "and", ("a", "r")), ("late", "and", ("s", "b"))),
        (("r", 0, "a"), ("s", 0, "n")), ("late",))
CONSTANT = (("a",), (("o", "zero", ()), ("i", "one", ()), ("no", "and", ("a", "o"))), (("r", 0, "a"),), ("o",))


def shift_net(count, first=0):
    """`bad` is 1 if the last one of registers in a row is, which nothing but the first values fills."""
    regs = tuple((f"r{at}", first, f"r{at - 1}" if at else "z") for at in range(count))
    return (), (("z", "zero", ()), ("bad", "buf", (f"r{count - 1}",))), regs, ("bad",)


def counter_net(count, limit):
    """A counter without an input that is held at 0: from another state it counts on to `limit`."""
    gates = [("any", "buf", ("r0",))] if count == 1 else []
    for at in range(1, count):
        gates.append((f"o{at}", "or", (f"o{at - 1}" if at > 1 else "r0", f"r{at}")))
    top = f"o{count - 1}" if count > 1 else "any"
    gates += [("c0", "and", (top, "r0")), ("n0", "xor", (top, "r0"))]
    for at in range(1, count):
        gates += [(f"c{at}", "and", (f"c{at - 1}", f"r{at}")), (f"n{at}", "xor", (f"c{at - 1}", f"r{at}"))]
    bits = [f"r{at}" for at in range(count)]
    gates += [(f"x{at}", "buf" if limit >> at & 1 else "not", (bits[at],)) for at in range(count)]
    gates.append(("e0", "buf", ("x0",)))
    gates += [(f"e{at}", "and", (f"e{at - 1}", f"x{at}")) for at in range(1, count)]
    gates.append(("bad", "buf", (f"e{count - 1}",)))
    return (), tuple(gates), tuple((bits[at], 0, f"n{at}") for at in range(count)), ("bad",)


def small_nets(seed, count, most=6):
    source = random.Random(seed)
    made = 0
    while made < count:
        inputs = source.randrange(4)
        net = random_net(source, inputs, source.randrange(9), source.randrange(most - inputs))
        if wires_of(net):
            made += 1
            yield source, net, source.choice(wires_of(net))


def plain_safe(net, wire):
    """States from which no run is found that fails: all states that are reached are looked at."""
    found = []
    for state in all_states(net):
        seen, left = {state}, [state]
        while left:
            for after in nexts(net, left.pop()):
                if after not in seen:
                    seen.add(after)
                    left.append(after)
        if not any(fails_at(net, wire, other) for other in seen):
            found.append(state)
    return tuple(sorted(found, key=row_key))


def plain_failing(net, wire, most):
    """The least failing stimulus of at most this length, or None."""
    for size in range(1, most + 1):
        found = [stimulus for stimulus in itertools.product(rows_of(len(net[0])), repeat=size)
                 if plain_run(net, stimulus)[0][-1][wire] == 1]
        if found:
            return min(found, key=stimulus_key)
    return None


def plain_layers(net, wire, layers):
    if not layers or first_of(net) not in layers[0]:
        return False
    for place, layer in enumerate(layers):
        around = [state for other in layers[:place + 2] for state in other]
        if place == len(layers) - 1:
            around = [state for other in layers for state in other]
        for state in layer:
            if fails_at(net, wire, state) or not all(after in around for after in nexts(net, state)):
                return False
    return True


def plain_inductive(net, wire, count):
    """Both conditions of point 61, run by run."""
    rows = rows_of(len(net[0]))
    for size in range(count + 1):
        for stimulus in itertools.product(rows, repeat=size):
            if any(values[wire] for values in plain_run(net, stimulus)[0]):
                return False
    for state in all_states(net):
        for stimulus in itertools.product(rows, repeat=count + 1):
            shown = [values[wire] for values in plain_run(net, stimulus, state)[0]]
            if shown == [0] * count + [1]:
                return False
    return True


class FailingTest(CheckCase):
    def test_never(self):
        for net, wire, due in ((SWAP, "both", True), (SWAP, "r", False), (STUCK, "t", True), (STUCK, "g", True),
                               (STUCK, "r", False), (CONSTANT, "o", True), (CONSTANT, "no", True),
                               (CONSTANT, "i", False), (CONSTANT, "a", False), (LATE, "late", False),
                               (ROUND, "z", False), (shift_net(8), "bad", True), (shift_net(8, 1), "bad", False)):
            self.same(never(net, wire), due)
            self.assertEqual(failing_run(net, wire) is None, due)

    def test_failing_run(self):
        self.same(failing_run(CONSTANT, "i"), ((0,),))
        self.same(failing_run(CONSTANT, "a"), ((1,),))
        self.same(failing_run(CONSTANT, "o"), None)
        self.same(failing_run(CONSTANT, "r"), ((1,), (0,)))
        self.same(failing_run(LATE, "late"), ((1, 0), (1, 0), (0, 1)))
        self.same(failing_run(ROUND, "x"), ((),))
        self.same(failing_run(ROUND, "z"), ((), (), ()))
        self.same(failing_run(STUCK, "t"), None)
        self.same(failing_run(SWAP, "both"), None)
        self.same(failing_run(COUNTER, "carry"), ((1,), (1,)))
        self.assertEqual(len(failing_run(COUNTER, "r1")), 3)
        self.assertEqual(failing_run(shift_net(8, 1), "bad"), ((),))

    def test_the_first_tick_that_differs_decides(self):
        # Two states fail one tick later; the one with the less path has the greater last row.
        net = (("a", "b"), (("x", "and", ("s", "b")), ("y", "and", ("t", "a")), ("bad", "or", ("x", "y"))),
               (("s", 0, "a"), ("t", 0, "b")), ())
        self.same(failing_run(net, "bad"), ((1, 0), (0, 1)))
        turned = (("a", "b"), (("x", "and", ("s", "a")), ("y", "and", ("t", "b")), ("bad", "or", ("x", "y"))),
                  (("s", 0, "b"), ("t", 0, "a")), ())
        self.same(failing_run(turned, "bad"), ((1, 0), (0, 1)))

    def test_against_all_stimuli(self):
        for source, net, wire in small_nets(1, 120):
            most = {1: 5, 2: 4, 4: 3, 8: 2}[2 ** len(net[0])]
            due = plain_failing(net, wire, most)
            found = failing_run(net, wire)
            if due is not None:
                self.same(found, due)
            elif found is not None:
                self.assertGreater(len(found), most)
                self.same(is_failing(net, wire, found), True)
            self.same(never(net, wire), found is None)
            self.assertEqual(first_of(net) in plain_safe(net, wire), found is None)

    def test_is_failing(self):
        self.same(is_failing(LATE, "late", ((1, 0), (1, 0), (0, 1))), True)
        self.same(is_failing(LATE, "late", ((1, 0), (1, 0), (0, 1), (0, 0))), False)
        self.same(is_failing(LATE, "a", ((1, 0),)), True)
        # Earlier ticks do not matter.
        self.same(is_failing(LATE, "a", ((1, 0), (1, 1))), True)
        self.same(is_failing(LATE, "a", ()), False)
        self.same(is_failing(CONSTANT, "i", ()), False)
        self.same(is_failing(BIG, "s", ((0,) * 6,)), True)
        self.same(is_failing(BIG, "s", ((0,) * 6, (1,) * 6)), False)
        self.same(is_failing(BIG, "t", ((0,) * 6,) * 2), True)
        self.same(is_failing(CONSTANT, "a", ((0,),) * 299 + ((1,),)), True)
        for source, net, wire in small_nets(2, 60):
            stimulus = random_stimulus(source, net, source.randrange(1, 7))
            self.same(is_failing(net, wire, stimulus), plain_run(net, stimulus)[0][-1][wire] == 1)


class InvariantTest(CheckCase):
    def test_safe_states(self):
        self.same(safe_states(SWAP, "both"), ((0, 0), (1, 0), (0, 1)))
        self.same(safe_states(SWAP, "r"), ((0, 0),))
        self.same(safe_states(CONSTANT, "o"), ((0,), (1,)))
        self.same(safe_states(CONSTANT, "i"), ())
        self.same(safe_states(CONSTANT, "a"), ())
        self.same(safe_states(EMPTY[:1] + ((("o", "zero", ()),), (), ()), "o"), ((),))
        # The first state is not among them.
        self.same(safe_states(((), (), (("r", 1, "s"), ("s", 0, "s")), ()), "r"), ((0, 0),))
        self.same(safe_states(STUCK, "t"), ((0, 0), (1, 0)))
        self.same(safe_states(shift_net(3), "bad"), ((0, 0, 0),))
        self.same(safe_states(counter_net(3, 5), "bad"), ((0, 0, 0), (0, 1, 1), (1, 1, 1)))

    def test_safe_states_of_random_nets(self):
        for source, net, wire in small_nets(3, 150):
            due = plain_safe(net, wire)
            self.same(safe_states(net, wire), due)
            if first_of(net) in due:
                shuffled = source.sample(due, len(due))
                self.same(is_invariant(net, wire, tuple(shuffled + shuffled[:3])), True)
            else:
                self.same(is_invariant(net, wire, due), False)

    def test_is_invariant(self):
        self.same(is_invariant(SWAP, "both", ((1, 0), (0, 1))), True)
        self.same(is_invariant(SWAP, "both", ((0, 1), (1, 0), (0, 1), (0, 0))), True)
        # Without the first state, with a state that is left, with a state at which the wire is 1.
        self.same(is_invariant(SWAP, "both", ((0, 0),)), False)
        self.same(is_invariant(SWAP, "both", ()), False)
        self.same(is_invariant(SWAP, "both", ((1, 0),)), False)
        self.same(is_invariant(SWAP, "both", ((1, 0), (0, 1), (1, 1))), False)
        self.same(is_invariant(CONSTANT, "a", ((0,), (1,))), False)
        self.same(is_invariant(CONSTANT, "o", ((1,), (0,))), True)
        self.same(is_invariant(CONSTANT, "o", ((0,),)), False)
        for source, net, wire in small_nets(4, 150, 4):
            for _ in range(6):
                states = tuple(source.choices(all_states(net), k=source.randrange(7)))
                due = (first_of(net) in states and not any(fails_at(net, wire, state) for state in states)
                       and all(after in states for state in states for after in nexts(net, state)))
                self.same(is_invariant(net, wire, states), due)


class LayersTest(CheckCase):
    def test_find_layers(self):
        for source, net, wire in small_nets(5, 150):
            found = find_layers(net, wire)
            if never(net, wire):
                self.assertTrue(plain_layers(net, wire, found))
                self.same(is_layers(net, wire, found), True)
                self.assertTrue(all(isinstance(state, tuple) for layer in found for state in layer))
            else:
                self.assertIsNone(found)
            self.same(is_layers(net, wire, plain_levels(net)), never(net, wire))

    def test_is_layers(self):
        zero, one, both = (0, 0), (1, 0), (0, 1)
        # `t` stays 0; from `zero` and from `one` both are reached.
        for layers, due in [
                ((), False), (((),), False), (((zero, one),), True), (((zero,), (one,)), True),
                (((zero,), ()), False), (((one,), (zero,)), False), (((), (zero, one)), False),
                (((zero,), (one,), ()), True), (((zero,), (), (one,)), False),
                (((zero, one), (), (zero,)), True), (((zero, one), ()), True), (((zero,),), False),
                (((zero, zero), (one, zero, one)), True), (((zero,), (one, both)), False),
                (((zero,), (zero,), (one,)), False), (((zero,), (one,), (zero,), (one,)), True),
                (((zero,), (one, zero), (zero,)), True)]:
            with self.subTest(layers=layers):
                self.assertEqual(plain_layers(STUCK, "t", layers), due)
                self.same(is_layers(STUCK, "t", layers), due)

    def test_a_state_at_several_places(self):
        # Four states that follow each other; from layer k only the layers to k + 1 are near.
        net = ((), (("n0", "not", ("r0",)), ("n1", "xor", ("r0", "r1")), ("z", "zero", ())),
               (("r0", 0, "n0"), ("r1", 0, "n1")), ())
        s0, s1, s2, s3 = (0, 0), (1, 0), (0, 1), (1, 1)
        for layers, due in [
                (((s0,), (s1,), (s2,), (s3,)), True), (((s0,), (s1,), (s3,), (s2,)), False),
                (((s0,), (s1,), (s2, s3)), True), (((s0,), (s1,), (s2,), (s3,), (s0,), (s1,)), True),
                # s1 stands in layer 0 too, from where s2 in layer 2 is too far.
                (((s0, s1), (s1,), (s2,), (s3,)), False), (((s0, s1), (s2,), (s3,)), True),
                (((s0,), (s1, s2), (s3,)), True), (((s0, s2), (s1,), (s2,), (s3,)), False),
                (((s0, s2), (s1, s3), (s2,), (s3,)), True), (((s0,), (s2, s3), (s1,)), False),
                (((s0, s3), (s1,), (s2,)), True), (((s0, s3), (s2,), (s1,)), False)]:
            with self.subTest(layers=layers):
                self.assertEqual(plain_layers(net, "z", layers), due)
                self.same(is_layers(net, "z", layers), due)

    def test_random_layers(self):
        answers = []
        for source, net, wire in small_nets(6, 400, 4):
            levels = plain_levels(net)
            layers = [list(level) for level in levels]
            for _ in range(source.randrange(4)):
                layers[source.randrange(len(layers))].append(source.choice(all_states(net)))
            if source.randrange(3) == 0:
                layers.insert(source.randrange(len(layers) + 1), [])
            if source.randrange(3) == 0:
                layers.append(source.choice(layers))
            if source.randrange(4) == 0 and len(layers[-1]) > 0:
                layers[-1].pop()
            layers = tuple(tuple(layer) for layer in layers)
            answers.append(plain_layers(net, wire, layers))
            self.same(is_layers(net, wire, layers), answers[-1])
        self.assertGreater(answers.count(True), 20)

    def test_many_layers(self):
        self.same(is_layers(STUCK, "t", (((0, 0),), ((1, 0),)) * 200), True)
        states = tuple(rows_of(8))
        self.same(is_layers(shift_net(8), "z", (states,) * 60), True)


class RoundsTest(CheckCase):
    def test_some(self):
        self.same(rounds(CONSTANT, "o"), 0)
        self.same(rounds(CONSTANT, "i"), None)
        self.same(rounds(CONSTANT, "a"), None)
        self.same(rounds(LATE, "late"), None)
        # From the state in which both are 1 it stays so; from the others it is never so.
        self.same(rounds(SWAP, "both"), 1)
        self.same(rounds(STUCK, "g"), 1)
        self.same(rounds(STUCK, "t"), 1)
        for count in range(1, 9):
            self.same(rounds(shift_net(count), "bad"), count)
        self.same(rounds(counter_net(3, 5), "bad"), 5)
        self.same(rounds(counter_net(8, 255), "bad"), 255)
        self.same(rounds(counter_net(8, 254), "bad"), 254)

    def test_never_fails_but_is_not_inductive(self):
        # From the state (0, 1) the wire can wait as long as it will.
        net = (("a",), (("bad", "and", ("a", "s")),), (("r", 0, "r"), ("s", 0, "s")), ())
        self.same(never(net, "bad"), True)
        self.same(rounds(net, "bad"), None)
        for count in (0, 1, 2, 255, 256):
            self.same(is_inductive(net, "bad", count), False)

    def test_against_is_inductive(self):
        for source, net, wire in small_nets(7, 100):
            found = rounds(net, wire)
            for count in range(10):
                self.same(is_inductive(net, wire, count), found is not None and count >= found)
            self.same(is_inductive(net, wire, 256), found is not None)
            if found is not None:
                self.assertTrue(never(net, wire))
        for count in (0, 4, 5, 6, 7, 100):
            self.same(is_inductive(counter_net(3, 5), "bad", count), count >= 5)
        for count in (254, 255, 256):
            self.same(is_inductive(counter_net(8, 255), "bad", count), count >= 255)

    def test_against_all_runs(self):
        for source, net, wire in small_nets(8, 80, 4):
            most = {1: 5, 2: 4, 4: 2, 8: 1}[2 ** len(net[0])]
            for count in range(most):
                self.same(is_inductive(net, wire, count), plain_inductive(net, wire, count))

    def test_counts(self):
        self.same(is_inductive(CONSTANT, "o", 0), True)
        self.same(is_inductive(CONSTANT, "o", 256), True)
        self.same(is_inductive(CONSTANT, "a", 0), False)
        for count in (-1, 257, 10 ** 99, -10 ** 99):
            self.fails(BadIndex(count), is_inductive, CONSTANT, "o", count)
            self.fails(BadIndex(count), is_inductive, CONSTANT, "q", count)


class RunDifferenceTest(CheckCase):
    def test_some(self):
        same = (COUNTER[0], COUNTER[1], tuple((wire, first, source) for wire, first, source in COUNTER[2]), COUNTER[3])
        self.same(run_difference(COUNTER, same), None)
        other = COUNTER[:2] + ((("r0", 0, "lo"), ("r1", 1, "hi")),) + COUNTER[3:]
        self.same(run_difference(COUNTER, other), ((0,),))
        # The registers of the same wires are other registers: they have nothing to do with each other.
        first = (("a",), (), (("r", 0, "a"),), ("r",))
        second = (("a",), (("n", "not", ("a",)), ("m", "not", ("r",))), (("r", 1, "n"),), ("m",))
        self.same(run_difference(first, second), None)
        late = (("a",), (("x", "and", ("a", "s")),), (("r", 0, "a"), ("s", 0, "r")), ("r",))
        self.same(run_difference(late, late[:3] + (("s",),)), ((1,), (0,)))
        self.same(run_difference(late[:3] + (("x",),), (("a",), (("z", "zero", ()),), (), ("z",))),
                  ((1,), (0,), (1,)))
        self.same(run_difference(EMPTY, EMPTY), None)
        self.same(run_difference(EMPTY, ((), (), (("r", 0, "r"),), ())), None)

    def test_outputs_are_compared_by_place(self):
        net = (("a", "b"), (), (), ("a", "b"))
        self.same(run_difference(net, net[:3] + (("b", "a"),)), ((1, 0),))
        named = (("a", "b"), (("x", "buf", ("a",)), ("y", "buf", ("b",))), (), ("x", "y"))
        self.same(run_difference(net, named), None)

    def test_against_all_stimuli(self):
        for source, first, _ in small_nets(9, 120, 4):
            second = random_net(source, len(first[0]), source.randrange(8), source.randrange(4 - len(first[0])))
            count = min(len(first[3]), len(second[3]))
            first, second = first[:3] + (first[3][:count],), second[:3] + (second[3][:count],)
            most = {1: 4, 2: 4, 4: 3, 8: 2}[2 ** len(first[0])]
            due = None
            for size in range(1, most + 1):
                for stimulus in itertools.product(rows_of(len(first[0])), repeat=size):
                    differ = (plain_outputs(first, stimulus[-1], plain_run(first, stimulus[:-1])[1][-1])
                              != plain_outputs(second, stimulus[-1], plain_run(second, stimulus[:-1])[1][-1]))
                    self.same(is_run_difference(first, second, stimulus), differ)
                    if differ and (due is None or stimulus_key(stimulus) < stimulus_key(due)):
                        due = stimulus
            found = run_difference(first, second)
            if due is not None:
                self.same(found, due)
            elif found is not None:
                self.assertGreater(len(found), most)
                self.same(is_run_difference(first, second, found), True)

    def test_is_run_difference(self):
        other = COUNTER[:2] + ((("r0", 1, "lo"), ("r1", 0, "hi")),) + COUNTER[3:]
        self.same(is_run_difference(COUNTER, other, ()), False)
        self.same(is_run_difference(COUNTER, other, ((0,),)), True)
        self.same(is_run_difference(COUNTER, COUNTER, ((0,),) * 300), False)
        # Nets that are not small.
        second = BIG[:2] + ((("x", 0, "i1"), ("s", 1, "x"), ("t", 0, "s")), ("x",))
        self.same(is_run_difference(BIG, second, ((1, 0, 0, 0, 0, 0), (0,) * 6)), True)
        self.same(is_run_difference(BIG, second, ((1, 1, 0, 0, 0, 0), (0,) * 6)), False)
        self.same(is_run_difference(BIG, second, ((1, 0, 0, 0, 0, 0),)), False)

    def test_errors(self):
        self.fails(BadNet("unknown", "q"), run_difference, FAULT, RING)
        self.fails(BadNet("ring", "x"), run_difference, COUNTER, RING)
        self.fails(BadNet("twice", "x"), run_difference, BIG, FAULT_AND_RING)
        other = (("down",), (), (), ())
        self.fails(Mismatch("inputs"), run_difference, COUNTER, other)
        self.fails(Mismatch("inputs"), run_difference, BIG, (BIG[0][::-1], (), (), ()))
        self.fails(Mismatch("outputs"), run_difference, COUNTER, COUNTER[:3] + (("r0",),))
        self.fails(Mismatch("outputs"), run_difference, BIG, BIG[:3] + ((),))
        self.fails(TooLarge("small", 8), run_difference, BIG, BIG)

    def test_inputs_count_once(self):
        inputs = ("a", "b")

        def net(count):
            return inputs, (), tuple((f"r{at}", 0, "a") for at in range(count)), ("a",)

        self.same(run_difference(net(3), net(3)), None)
        self.same(run_difference(net(6), net(0)), None)
        self.same(run_difference(net(0), net(6)), None)
        self.fails(TooLarge("small", 8), run_difference, net(3), net(4))
        self.fails(TooLarge("small", 8), run_difference, net(4), net(3))
        self.fails(TooLarge("small", 8), run_difference, net(7), net(0))
        wide = (tuple(f"i{at}" for at in range(8)), (), (), ("i7",))
        self.same(run_difference(wide, wide[:3] + (("i6",),)), ((0,) * 6 + (1, 0),))

    def test_errors_of_is_run_difference(self):
        self.fails(BadNet("unknown", "q"), is_run_difference, FAULT, RING, ((7,),))
        self.fails(BadNet("ring", "x"), is_run_difference, COUNTER, RING, ((7,),))
        # The row fits to the second net only.
        self.fails(BadRow((1, 0)), is_run_difference, COUNTER, (("up", "x"), (), (), ()), ((1,), (1, 0)))
        self.fails(BadRow((2,)), is_run_difference, COUNTER, COUNTER[:3] + ((),), ((2,),))
        self.fails(TooLarge("ticks", 300), is_run_difference, COUNTER, (("x",), (), (), ()), ((1,),) * 301)
        self.fails(Mismatch("inputs"), is_run_difference, COUNTER, (("x",), (), (), ()), ())
        self.fails(Mismatch("outputs"), is_run_difference, COUNTER, COUNTER[:3] + (("r0",),), ((1,),))
        self.fails(Mismatch("inputs"), is_run_difference, BIG, COUNTER, ((0,) * 6,))


class ErrorsTest(CheckCase):
    CALLS = [(never, "z"), (failing_run, "z"), (safe_states, "z"), (find_layers, "z"), (rounds, "z"),
             (is_invariant, "z", ((9, 9),)), (is_layers, "z", (((9, 9),),)), (is_inductive, "z", -1)]

    def test_nets(self):
        for call, *args in self.CALLS + [(is_failing, "z", ((9, 9),))]:
            self.fails(BadNet("unknown", "q"), call, FAULT, *args)
            self.fails(BadNet("ring", "x"), call, RING, *args)
            self.fails(BadNet("twice", "x"), call, FAULT_AND_RING, *args)
        for call, *args in self.CALLS:
            self.fails(TooLarge("small", 8), call, BIG, *args)

    def test_unknown_wires_come_last(self):
        for call, *args in ((never,), (failing_run,), (safe_states,), (find_layers,), (rounds,),
                            (is_invariant, ()), (is_invariant, ((0, 0),)), (is_layers, ()), (is_layers, ((), ())),
                            (is_inductive, 0), (is_failing, ()), (is_failing, ((1,),))):
            self.fails(UnknownWire("z"), call, COUNTER, "z", *args)
            self.fails(UnknownWire(""), call, COUNTER, "", *args)
        self.fails(UnknownWire("z"), is_failing, BIG, "z", ())

    def test_rows(self):
        for bad in ((0,), (0, 0, 0), (), (0, 2), (-1, 0), (0,) * 300):
            for wire in ("r0", "z"):
                self.fails(BadRow(bad), is_invariant, COUNTER, wire, ((1, 1), bad, (7,)))
                self.fails(BadRow(bad), is_layers, COUNTER, wire, (((1, 1),), (), ((0, 0), bad), ((7,),)))
                self.fails(BadRow(bad), is_layers, COUNTER, wire, ((bad,), ((7,),)))
        for wire in ("r0", "z"):
            self.fails(BadRow((0, 1)), is_failing, COUNTER, wire, ((1,), (0, 1), (2,)))
            self.fails(TooLarge("ticks", 300), is_failing, COUNTER, wire, ((1,),) * 301)
            self.fails(BadRow((5,)), is_failing, COUNTER, wire, ((1,),) * 301 + ((5,),))


if __name__ == "__main__":
    unittest.main()

"""Points 42 to 45, 52 and 53, and what the interface says of making.py."""

import random
import unittest

from checks import CheckCase
from limits import (FROM_MARKED, FROM_UNMARKED, FUSE_200, FUSE_201, OPTIONS, REPEAT_200, REPEAT_200_SMALL,
                    REPEAT_201, REPEAT_201_WIDE, THEN_200, THEN_201, THEN_201_WIDE, pattern)
from plain_machines import PlainMaker, TooMany, flag_tree, least_of, letter_rows, plain_accepts, view_of
from plain_patterns import (ANY, EMPTY, KINDS, NEVER, NOT_A, SEE_A, SEE_B, Plain, chain_of,
                            random_pattern, tree_of)
from wirewatch.errors import BadPattern, TooLarge, UnknownWire
from wirewatch.making import flag_machine, machine_of
from wirewatch.patterns import flags, names_of

# Nodes of each kind, to stand alone and within each other.
SOME = {
    "see": SEE_A, "empty": EMPTY, "never": NEVER, "then": ("then", SEE_A, NOT_A), "fuse": ("fuse", ANY, SEE_A),
    "or": ("or", EMPTY, SEE_A), "both": ("both", ANY, NOT_A), "not": ("not", SEE_A),
    "times": ("times", SEE_A, 1, 2), "within": ("within", ("times", SEE_A, 0, None), 2),
}


def nodes_over(p, q):
    """Nodes of each kind that has parts."""
    return [(kind, p, q) for kind in ("then", "fuse", "or", "both")] + [
        ("not", p), ("within", p, 0), ("within", p, 1), ("within", p, 9),
        *[("times", p, low, high) for low, high in (
            (0, 0), (0, 1), (0, None), (1, 1), (1, 3), (2, None), (2, 2), (0, 9), (9, 9))]]


class MakingCase(CheckCase):
    def check_machine(self, machine, node, names, length):
        """The machine accepts the rows of which the pattern holds, and is least."""
        for letters in letter_rows(2 ** len(names), length):
            view = view_of(names, letters)
            self.assertEqual(plain_accepts(machine, letters), Plain(view).holds(node, 0, len(letters)),
                             (node, letters))
        self.same(machine[0], names)
        self.same(machine, least_of(machine))

    def check_outcome(self, call, node, tree, **options):
        """The call gives the machine of the tree, or tells the limit that it is over."""
        try:
            due = PlainMaker(names_of(node)).make(tree)
        except TooMany as caught:
            self.fails(TooLarge(*caught.args), call, node, **options)
            return None
        self.same(call(node, **options), due)
        return due

    def check_made(self, node, length):
        machine = self.check_outcome(machine_of, node, node)
        if machine is not None:
            self.check_machine(machine, node, names_of(node), length)


class MachineOfTest(MakingCase):
    def test_example(self):
        self.same(machine_of(SEE_A), (("a",), ((1, 2), (1, 1), (1, 1)), (0, 0, 1)))

    def test_each_kind_alone(self):
        self.assertEqual(sorted(SOME), sorted(KINDS))
        self.same(machine_of(EMPTY), ((), ((1,), (1,)), (1, 0)))
        self.same(machine_of(NEVER), ((), ((0,),), (0,)))
        self.same(machine_of(ANY), ((), ((1,), (2,), (2,)), (0, 1, 0)))
        self.same(machine_of(NOT_A), (("a",), ((1, 2), (2, 2), (2, 2)), (0, 1, 0)))
        self.same(machine_of(("times", SEE_A, 0, None)), (("a",), ((1, 0), (1, 1)), (1, 0)))
        for node in SOME.values():
            self.check_machine(machine_of(node), node, names_of(node), 6)

    def test_each_kind_within_each(self):
        for first in SOME.values():
            for second in SOME.values():
                for node in nodes_over(first, second):
                    self.check_made(node, 5)

    def test_two_levels(self):
        for first in SOME.values():
            for node in nodes_over(first, SEE_A):
                for outer in nodes_over(node, NOT_A)[::2]:
                    self.check_made(outer, 3)

    def test_two_wires(self):
        source = random.Random(1)
        made = 0
        while made < 150:
            node = random_pattern(source, source.randrange(2, 9))
            try:
                machine = machine_of(node)
            except TooLarge:
                continue
            made += 1
            self.check_machine(machine, node, names_of(node), {0: 6, 1: 5, 2: 3}[len(names_of(node))])

    def test_against_the_words_of_point_52(self):
        source = random.Random(2)
        for number in range(800):
            node = random_pattern(source, source.randrange(1, 17))
            self.check_outcome(machine_of, node, node)
            from_start, sticky = OPTIONS[number % 4]
            self.check_outcome(flag_machine, node, flag_tree(node, from_start, sticky),
                               from_start=from_start, sticky=sticky)


class NamesTest(MakingCase):
    def test_none_is_the_own_wires(self):
        both = ("then", SEE_B, SEE_A)
        self.same(machine_of(both)[0], ("a", "b"))
        self.same(machine_of(both), machine_of(both, names=("a", "b")))
        self.same(machine_of(both, names=None), machine_of(both))
        self.same(machine_of(ANY)[0], ())
        self.same(machine_of(ANY, names=()), machine_of(ANY))
        self.same(flag_machine(both, names=None), flag_machine(both))
        self.same(flag_machine(ANY, names=()), flag_machine(ANY))

    def test_other_orders_and_more_wires(self):
        both = ("then", SEE_B, ("times", SEE_A, 0, None))
        for names in (("b", "a"), ("a", "b", "c"), ("c", "b", "a"), ("u1.x", "b", "a")):
            self.check_machine(machine_of(both, names=names), both, names, 3)
            self.check_machine(flag_machine(both, names=names, from_start=True),
                               flag_tree(both, True), names, 3)
        for names in (("z",), ("x", "y"), ("x", "y", "z")):
            self.check_machine(machine_of(ANY, names=names), ANY, names, 3)
        self.check_machine(machine_of(SEE_A, names=("b", "a")), SEE_A, ("b", "a"), 3)

    def test_wrong_names(self):
        both = ("then", SEE_B, SEE_A)
        for call in (machine_of, flag_machine):
            self.fails(UnknownWire("a"), call, both, names=())
            self.fails(UnknownWire("a"), call, both, names=("c", "b"))
            self.fails(UnknownWire("b"), call, both, names=("a",))
            self.fails(UnknownWire("b"), call, both, names=("a", "c", "d"))
            self.fails(TooLarge("names", 3), call, both, names=("a", "b", "c", "d"))
            self.fails(TooLarge("names", 3), call, both, names=("c", "d", "e", "f"))

    def test_order_of_errors(self):
        bad = ("see", (("a", 2),))
        long = pattern(THEN_201)
        four = ("a", "b", "c", "d")
        for call in (machine_of, flag_machine):
            self.fails(BadPattern("bit", bad), call, ("not", bad), names=four)
            self.fails(BadPattern("kind", ("seen",)), call, ("or", ("seen",), bad))
            self.fails(TooLarge("nodes", 16), call, chain_of(17), names=four)
            self.fails(TooLarge("nodes", 16), call, tree_of(17, four))
            self.fails(TooLarge("names", 3), call, tree_of(15, four), names=("a",))
            self.fails(TooLarge("names", 3), call, long, names=four)
            self.fails(UnknownWire("a"), call, long, names=("b",))
            self.fails(TooLarge("pairs", 200), call, long)


class LimitsTest(MakingCase):
    def counts(self, node, names=("a", "b")):
        maker = PlainMaker(names, (10 ** 6, 10 ** 6))
        maker.make(node)
        return maker.counts

    def limited(self, text, **options):
        return machine_of(pattern(text), **options)

    def test_pairs_of_then_and_fuse(self):
        for text, pairs, states in ((THEN_200, 200, 16), (FUSE_200, 200, 9)):
            node = pattern(text)
            self.assertEqual(self.counts(node)[-2:], [pairs, -states])
            found = machine_of(node)
            self.assertEqual(len(found[2]), states)
            self.same(found, PlainMaker(("a", "b")).make(node))
        for text, states in ((THEN_201, 11), (THEN_201_WIDE, 23), (FUSE_201, 22)):
            node = pattern(text)
            self.assertEqual(self.counts(node)[-2:], [201, -states])
            # With 201 pairs the states do not matter, be they few or many.
            self.fails(TooLarge("pairs", 200), machine_of, node)
            self.fails(TooLarge("pairs", 200), machine_of, ("both", NEVER, node))
            self.fails(TooLarge("pairs", 200), flag_machine, node)

    def test_sets_of_a_repeat(self):
        for text, states in ((REPEAT_200, 16), (REPEAT_200_SMALL, 10)):
            part = pattern(text)
            maker = PlainMaker(("a", "b"))
            maker.repeat(maker.make(part))
            self.assertEqual(maker.counts[-2:], [200, -states])
            for low in (0, 1):
                node = ("times", part, low, None)
                self.check_outcome(machine_of, node, node)
        found = machine_of(("times", pattern(REPEAT_200_SMALL), 0, None))
        self.assertEqual(len(found[2]), 10)
        for text, states in ((REPEAT_201, 1), (REPEAT_201_WIDE, 23)):
            part = pattern(text)
            maker = PlainMaker(("a", "b"), (10 ** 6, 10 ** 6))
            maker.repeat(maker.make(part))
            self.assertEqual(maker.counts[-2:], [201, -states])
            self.fails(TooLarge("pairs", 200), machine_of, ("times", part, 0, None))
            self.fails(TooLarge("pairs", 200), flag_machine, ("times", part, 1, None))
            # Without a repeat it has no such sets.
            self.same(machine_of(("times", part, 0, 0)), machine_of(EMPTY, names=("a", "b")))

    def test_states_of_each_kind(self):
        due = TooLarge("states", 16)
        # A row of n ticks takes n + 2 states.
        for text, states in (("[]{9} ; []{5}", 16), ("[]{9} : []{6}", 16), ("[]{9,} ; []{6,}", 16),
                             ("~([]{9} ; []{5})", 16), ("[]{3}* & []{5}*", 15), ("[]{3}* | []{5}*", 15),
                             ("[]{3}* & []{5}* & ~empty", 16), ("[]{3}* & []{5}* | empty", 15),
                             (FROM_MARKED, 16), (FROM_UNMARKED, 16), ("(~[!a]{0,6})@8", 16),
                             ("([a] ; []*)@9", 11)):
            node = pattern(text)
            self.assertEqual(self.counts(node, names_of(node))[-1], -states, text)
            self.same(machine_of(node), PlainMaker(names_of(node)).make(node))
        for text, states in (("[]{9} ; []{6}", 17), ("[]{9} : []{7}", 17), ("[]{9,} ; []{7,}", 17),
                             ("[]{3}* & []{5}* | []", 17), ("[]{2}* & []{9}*", 18), ("[]{2}* | []{9}*", 18),
                             (f"{FROM_MARKED} & ~empty", 17), (f"{FROM_UNMARKED} | empty", 17),
                             ("(~[!a]{0,6})@9", 17), ("(~[a]*)@8", 17)):
            node = pattern(text)
            self.assertEqual(self.counts(node, names_of(node))[-1], -states, text)
            self.fails(due, machine_of, node)

    def test_states_of_a_repeat(self):
        for text, states in (("~(empty ; ~([!a] ; []))@8", 16), ("[!a]{2} : []@1{2,6}", 16),
                             ("[!a] | []{9,}", 17)):
            node = ("times", pattern(text), 0, None)
            maker = PlainMaker(("a",), (10 ** 6, 10 ** 6))
            maker.repeat(maker.make(node[1]))
            self.assertEqual(maker.counts[-1], -states)
            self.check_outcome(machine_of, node, node)

    def test_states_of_what_is_made_for_times(self):
        part = pattern(FROM_UNMARKED)
        self.same(machine_of(("times", part, 0, 0)), machine_of(EMPTY, names=("a",)))
        self.same(machine_of(("times", part, 1, 1)), machine_of(part))
        # `or` of `empty` and the part has a new start, the seventeenth state.
        self.assertEqual(self.counts(("or", EMPTY, part), ("a",))[-1], -17)
        self.fails(TooLarge("states", 16), machine_of, ("times", part, 0, 1))
        self.fails(TooLarge("states", 16), machine_of, ("times", part, 1, 2))
        self.fails(TooLarge("states", 16), machine_of, ("or", EMPTY, part))
        # The last of the machines that are made is small again, but not one before it.
        self.assertEqual(len(machine_of(("times", ANY, 9, 9))[2]), 11)
        self.same(machine_of(("times", ("or", EMPTY, ANY), 9, None)), machine_of(("times", ANY, 0, None)))
        self.assertEqual(len(machine_of(("times", ("times", ANY, 2, 2), 7, 7))[2]), 16)
        self.fails(TooLarge("states", 16), machine_of, ("times", ("times", ANY, 2, 2), 8, 8))
        self.fails(TooLarge("states", 16), machine_of, ("times", ("times", ANY, 2, 2), 8, None))
        self.assertEqual(len(machine_of(("times", ("times", ANY, 2, 2), 7, None))[2]), 15)
        self.fails(TooLarge("states", 16), machine_of, ("times", ("times", ANY, 2, 2), 7, 8))
        self.fails(TooLarge("states", 16), machine_of, ("times", ("times", ANY, 2, 2), 0, 8))

    def test_the_part_of_times_0_0(self):
        for text, due in (("[]{9} ; []{6}", TooLarge("states", 16)), (FUSE_201, TooLarge("pairs", 200)),
                          (THEN_201_WIDE, TooLarge("pairs", 200)),
                          ("[]{4}{4} ; " + THEN_201_WIDE, TooLarge("states", 16))):
            self.fails(due, machine_of, ("times", pattern(text), 0, 0))

    def test_first_node_over_a_limit(self):
        pairs, states = pattern(THEN_201), pattern("[]{9} ; []{6}")
        for kind in ("or", "both", "then", "fuse"):
            self.fails(TooLarge("states", 16), machine_of, (kind, states, pattern("[a] ; [b]")))
            self.fails(TooLarge("states", 16), machine_of, (kind, NEVER, states))
            self.fails(TooLarge("states", 16), machine_of, (kind, states, NEVER))
            self.fails(TooLarge("pairs", 200), machine_of, (kind, pairs, ANY))
        self.fails(TooLarge("pairs", 200), machine_of, ("not", pairs))


class FlagMachineTest(MakingCase):
    def test_flags(self):
        source = random.Random(3)
        made = 0
        while made < 120:
            node = random_pattern(source, source.randrange(1, 8))
            names = names_of(node)
            for from_start, sticky in OPTIONS:
                try:
                    machine = flag_machine(node, from_start=from_start, sticky=sticky)
                except TooLarge:
                    continue
                made += 1
                self.same(machine, least_of(machine))
                for letters in letter_rows(2 ** len(names), {0: 6, 1: 5, 2: 3}[len(names)]):
                    shown = flags(node, view_of(names, letters), from_start=from_start, sticky=sticky)
                    self.assertEqual(plain_accepts(machine, letters), shown[-1:] == (1,), (node, letters))

    def test_each_option(self):
        node = ("then", SEE_A, NOT_A)
        self.same(flag_machine(node), (("a",), ((0, 1), (2, 1), (0, 1)), (0, 0, 1)))
        self.same(flag_machine(node, sticky=True), (("a",), ((0, 1), (2, 1), (2, 2)), (0, 0, 1)))
        self.same(flag_machine(node, from_start=True),
                  (("a",), ((1, 2), (1, 1), (3, 1), (1, 1)), (0, 0, 0, 1)))
        self.same(flag_machine(node, from_start=True, sticky=True),
                  (("a",), ((1, 2), (1, 1), (3, 1), (3, 3)), (0, 0, 0, 1)))
        for from_start, sticky in OPTIONS:
            self.same(flag_machine(node, from_start=from_start, sticky=sticky),
                      machine_of(flag_tree(node, from_start, sticky)))
        # The empty stretch is never flagged.
        self.same(flag_machine(EMPTY, from_start=True), ((), ((0,),), (0,)))
        self.same(flag_machine(("not", NEVER), from_start=True), ((), ((1,), (1,)), (0, 1)))

    def test_limits_of_the_built_pattern(self):
        # Not of the rows of at least one tick, which have a seventeenth state.
        part = pattern(FROM_MARKED)
        for from_start, sticky in OPTIONS:
            self.fails(TooLarge("states", 16), flag_machine, part, from_start=from_start, sticky=sticky)
        # It would be small: every tick is flagged.
        self.same(flag_machine(("or", ANY, ("times", ANY, 5, 5))), ((), ((1,), (1,)), (0, 1)))
        # Over the limit at the first, the second or the third node that is built, or nowhere.
        for text in ("[]{9} ; []{5}", "[]* ; [a] ; []{3}", THEN_200, REPEAT_200_SMALL, "[a]{5} ; [b]{2} ; [a]",
                     "([a] ; [b]){3} ; [!a]", "[a] ; []{4}", "[a] ; []{3} ; [b]", "[a b]{9} ; [a]"):
            node = pattern(text)
            for from_start, sticky in OPTIONS:
                self.check_outcome(flag_machine, node, flag_tree(node, from_start, sticky),
                                   from_start=from_start, sticky=sticky)

    def test_the_size_is_that_of_the_pattern_alone(self):
        node = chain_of(16)
        self.same(flag_machine(node), PlainMaker(("a",)).make(flag_tree(node)))
        three = tree_of(15, ("a", "b", "c"))
        self.same(flag_machine(three, sticky=True), PlainMaker(("a", "b", "c")).make(flag_tree(three, False, True)))


if __name__ == "__main__":
    unittest.main()

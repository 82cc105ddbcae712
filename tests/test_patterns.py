"""patterns.py: faults, sizes and the plain reading of patterns (points 36 and 42 to 45)."""

import copy
import itertools
import random
import unittest

from checks import CheckCase
from plain_patterns import (ANY, EMPTY, NEVER, NOT_A, SEE_A, SEE_B, Plain, chain_of, random_pattern,
                            tree_of)
from wirewatch.errors import BadIndex, BadPattern, BadRow, TooLarge, UnknownWire
from wirewatch.patterns import (check_pattern, flags, holds, names_of, node_count, pattern_fault,
                                stretches)

# Each faulty node with its code.
FAULTY = [
    (("seen",), "kind"), (("",), "kind"), (("See", ()), "kind"), (("times*", SEE_A, 0, 0), "kind"),
    (("and", ("seen",), ("",)), "kind"), (("repeat", 3), "kind"),
    (("see", (("A", 1),)), "wire"), (("see", (("", 1),)), "wire"), (("see", (("a.", 0),)), "wire"),
    (("see", (("a b", 2),)), "wire"), (("see", (("a", 1), ("B", 1))), "wire"),
    (("see", (("a", 2),)), "bit"), (("see", (("a", -1),)), "bit"), (("see", (("a", 10 ** 99),)), "bit"),
    (("see", (("a", 1), ("b", 0), ("c", 2))), "bit"), (("see", (("a", 0), ("a", 2))), "bit"),
    (("see", (("a", 1), ("a", 1))), "twice"), (("see", (("a", 1), ("b", 1), ("a", 0))), "twice"),
    (("see", (("a", 1), ("a", 1), ("A", 1))), "twice"), (("see", (("a", 3), ("a", 1), ("A", 1))), "bit"),
    (("see", (("A", 3), ("a", 3))), "wire"),
    (("times", SEE_A, -1, None), "count"), (("times", SEE_A, 10, None), "count"),
    (("times", SEE_A, 2, 1), "count"), (("times", SEE_A, 0, 10), "count"), (("times", SEE_A, 0, -1), "count"),
    (("times", SEE_A, -1, 3), "count"), (("times", SEE_A, 10, 10), "count"),
    (("times", SEE_A, 9, 8), "count"), (("times", SEE_A, 10 ** 99, None), "count"),
    (("within", SEE_A, -1), "count"), (("within", SEE_A, 10), "count"), (("within", SEE_A, -10 ** 99), "count"),
]
GOOD = [
    SEE_A, ANY, EMPTY, NEVER, ("see", (("a", 1), ("b", 0), ("u1.q", 1))), ("see", (("empty", 0), ("see", 1))),
    ("then", SEE_A, NOT_A), ("fuse", ANY, EMPTY), ("or", NEVER, SEE_B), ("both", SEE_A, SEE_A),
    ("not", ("not", SEE_A)), ("times", SEE_A, 0, 0), ("times", SEE_A, 0, None), ("times", SEE_A, 9, 9),
    ("times", SEE_A, 9, None), ("times", SEE_A, 0, 9), ("within", SEE_A, 0), ("within", SEE_A, 9),
]


def around(node):
    """Patterns that have the node at each place of each kind, with nothing else wrong."""
    return [("then", node, SEE_A), ("then", SEE_A, node), ("fuse", node, EMPTY), ("fuse", EMPTY, node),
            ("or", node, ANY), ("or", ANY, node), ("both", node, NEVER), ("both", NEVER, node),
            ("not", node), ("times", node, 1, 2), ("within", node, 3)]


class FaultTest(CheckCase):
    def check(self, pattern, code, node):
        before = copy.deepcopy(pattern)
        error = BadPattern(code, node)
        self.same(pattern_fault(pattern), (code, node))
        for call in (check_pattern, node_count, names_of):
            self.fails(error, call, pattern)
        view = (("A",), ((2,),) * 30)
        self.fails(error, holds, pattern, view, -1, -1)
        self.fails(error, stretches, pattern, view)
        self.fails(error, flags, pattern, view)
        self.same(pattern, before)

    def test_at_the_root(self):
        for node, code in FAULTY:
            with self.subTest(node):
                self.check(node, code, node)

    def test_deep_within(self):
        for node, code in FAULTY:
            for pattern in around(node):
                self.check(pattern, code, node)
            pattern = ("or", ("both", ("not", SEE_A), ("times", ("then", ANY, ("within", node, 1)), 0, 3)), SEE_B)
            self.check(pattern, code, node)

    def test_without_faults(self):
        for node in GOOD:
            for pattern in [node] + around(node):
                self.same(pattern_fault(pattern), None)
                self.same(check_pattern(pattern), None)

    def test_two_at_once(self):
        for node, code in FAULTY:
            for other, other_code in FAULTY:
                # The first part with everything in it comes before the second one.
                self.same(pattern_fault(("then", node, other)), (code, node))
                pattern = ("fuse", ("not", ("or", ANY, node)), other)
                self.same(pattern_fault(pattern), (code, node))
                pattern = ("both", SEE_A, ("or", ("not", other), node))
                self.same(pattern_fault(pattern), (other_code, other))
                # A node comes before its parts.
                for upper in (("times", node, 2, 1), ("times", ("not", node), 10, None)):
                    self.same(pattern_fault(upper), ("count", upper))
                upper = ("within", ("then", node, other), 10)
                self.same(pattern_fault(upper), ("count", upper))

    def test_unknown_kinds_have_no_parts(self):
        for node, _ in FAULTY:
            pattern = ("xor", node, SEE_A)
            self.same(pattern_fault(pattern), ("kind", pattern))

    def test_faults_come_before_sizes(self):
        for size in (17, 39):
            pattern = ("or", tree_of(size, ("a", "b", "c", "d")), ("seen",))
            self.check(pattern, "kind", ("seen",))


class SizeTest(CheckCase):
    def test_nodes(self):
        for size in (1, 2, 15, 16, 17, 18, 40):
            pattern = chain_of(size)
            self.same(node_count(pattern), size)
            self.same(names_of(pattern), ("a",))
            self.same(pattern_fault(pattern), None)
            self.check_size(pattern, None if size <= 16 else TooLarge("nodes", 16))
        self.same(node_count(tree_of(15)), 15)
        self.same(node_count(("or", tree_of(15), SEE_A)), 17)
        # A node counts once for each place.
        pattern = SEE_A
        for size in (3, 7, 15):
            pattern = ("both", pattern, pattern)
            self.same(node_count(pattern), size)
        self.check_size(("both", pattern, NEVER), TooLarge("nodes", 16))
        self.check_size(("not", pattern), None)
        for node in GOOD:
            self.same(node_count(("within", node, 2)), 1 + node_count(node))

    def test_names(self):
        three = ("see", (("c", 1), ("a", 0), ("b.a", 1)))
        self.same(names_of(three), ("a", "b.a", "c"))
        self.same(names_of(("or", ("see", (("b", 1), ("b1", 1))), ("not", ("see", (("b.z", 0), ("b", 0)))))),
                  ("b", "b.z", "b1"))
        self.same(names_of(("then", EMPTY, ANY)), ())
        self.check_size(three, None)
        self.check_size(("then", three, three), None)
        four = ("then", three, ("see", (("d", 1),)))
        self.same(names_of(four), ("a", "b.a", "c", "d"))
        self.check_size(four, TooLarge("names", 3))
        self.check_size(("see", (("a", 1), ("b", 1), ("c", 1), ("d", 1))), TooLarge("names", 3))

    def test_nodes_come_before_names(self):
        pattern = tree_of(17, ("a", "b", "c", "d"))
        self.same(names_of(pattern), ("a", "b", "c", "d"))
        self.check_size(pattern, TooLarge("nodes", 16))
        self.check_size(tree_of(15, ("a", "b", "c", "d")), TooLarge("names", 3))
        self.check_size(("not", tree_of(15, ("a", "b", "c", "d"))), TooLarge("names", 3))
        self.check_size(("not", tree_of(15, ("a", "b", "c"))), None)

    def check_size(self, pattern, error):
        view = (("q",), ((2,),) * 30)
        if error is None:
            self.same(check_pattern(pattern), None)
            error = BadRow((2,))
        else:
            self.fails(error, check_pattern, pattern)
        self.fails(error, holds, pattern, view, -1, -1)
        self.fails(error, stretches, pattern, view)
        self.fails(error, flags, pattern, view)


def short_views():
    """All views of up to 3 ticks of one wire, and a longer one."""
    for ticks in range(4):
        for bits in itertools.product((0, 1), repeat=ticks):
            yield ("b", "a"), tuple((1 if at == 1 else 1 - bit, bit) for at, bit in enumerate(bits))
    source = random.Random(1)
    yield ("a", "b", "c"), tuple(tuple(source.randrange(2) for _ in range(3)) for _ in range(6))


class ReadingTest(CheckCase):
    def check(self, pattern, view, each_stretch=True):
        plain = Plain(view)
        ticks = len(view[1])
        found = plain.stretches(pattern)
        self.same(stretches(pattern, view), found)
        if each_stretch:
            for start in range(ticks + 1):
                for end in range(start, ticks + 1):
                    self.same(holds(pattern, view, start, end), (start, end) in found)
        for from_start in (False, True):
            for sticky in (False, True):
                self.same(flags(pattern, view, from_start=from_start, sticky=sticky),
                          plain.flags(pattern, from_start, sticky))

    def test_each_kind_of_node(self):
        leaves = [SEE_A, NOT_A, ANY, EMPTY, NEVER, ("see", (("b", 1), ("a", 0)))]
        # Parts that hold of empty stretches, of long ones, and of some stretches of each length.
        parts = leaves + [("times", ANY, 0, None), ("or", EMPTY, SEE_A), ("not", SEE_A), ("then", SEE_A, ANY),
                          ("or", EMPTY, ("then", ANY, SEE_B))]
        patterns = leaves + [("not", part) for part in parts]
        patterns += [(kind, p, q) for kind in ("then", "fuse", "or", "both") for p in parts for q in parts]
        patterns += [("within", part, most) for part in parts for most in (0, 1, 2, 9)]
        patterns += [("times", part, low, high) for part in parts for low, high in (
            (0, 0), (0, 1), (0, None), (1, 1), (1, None), (2, 2), (1, 3), (3, None), (0, 9), (9, 9), (9, None))]
        for view in short_views():
            for pattern in patterns:
                self.check(pattern, view, len(view[1]) < 3)

    def test_many_patterns(self):
        source = random.Random(2)
        for _ in range(500):
            pattern = random_pattern(source, source.randrange(1, 17))
            ticks = source.randrange(9)
            view = (("a", "b"), tuple((source.randrange(2), source.randrange(2)) for _ in range(ticks)))
            before = copy.deepcopy((pattern, view))
            self.check(pattern, view, False)
            self.same((pattern, view), before)

    def test_examples(self):
        view = (("a",), ((1,), (0,), (0,), (1,), (0,)))
        pattern = ("then", SEE_A, NOT_A)
        self.same(flags(pattern, view), (0, 1, 0, 0, 1))
        self.same(flags(pattern, view, from_start=True), (0, 1, 0, 0, 0))
        self.same(flags(pattern, view, sticky=True), (0, 1, 1, 1, 1))
        self.same(flags(pattern, view, from_start=True, sticky=True), (0, 1, 1, 1, 1))
        self.same(stretches(pattern, view), ((0, 2), (3, 5)))
        self.same(holds(pattern, view, 0, 2), True)
        self.same(holds(pattern, view, 0, 1), False)
        # The two parts of `fuse` overlap in one tick.
        self.same(stretches(("fuse", ("then", SEE_A, NOT_A), ("then", NOT_A, NOT_A)), view), ((0, 3),))
        self.same(stretches(("fuse", SEE_A, SEE_A), view), ((0, 1), (3, 4)))
        self.same(stretches(("fuse", EMPTY, ANY), view), ())
        self.same(stretches(("fuse", ANY, EMPTY), view), ())
        self.same(flags(("not", EMPTY), view), (1, 1, 1, 1, 1))
        # Empty stretches have no last tick.
        self.same(flags(EMPTY, view), (0, 0, 0, 0, 0))
        self.same(flags(("times", SEE_A, 0, None), view), (1, 0, 0, 1, 0))
        self.same(flags(SEE_A, (("b", "a"), ((1, 0), (0, 1)))), (0, 1))

    def test_the_empty_view(self):
        view = (("a", "b"), ())
        for pattern in (SEE_A, EMPTY, NEVER, ANY, ("not", SEE_A), ("times", SEE_A, 0, 0), ("fuse", EMPTY, EMPTY),
                        ("then", EMPTY, EMPTY), ("not", EMPTY)):
            self.check(pattern, view)
            for from_start in (False, True):
                for sticky in (False, True):
                    self.same(flags(pattern, view, from_start=from_start, sticky=sticky), ())
        self.same(holds(EMPTY, view, 0, 0), True)
        self.same(stretches(EMPTY, view), ((0, 0),))
        self.same(stretches(SEE_A, view), ())
        self.same(stretches(EMPTY, ((), ())), ((0, 0),))
        self.same(stretches(ANY, ((), ((), ()))), ((0, 1), (1, 2)))

    def test_twenty_ticks(self):
        source = random.Random(3)
        rows = tuple((source.randrange(2), source.randrange(2)) for _ in range(20))
        for _ in range(40):
            self.check(random_pattern(source, source.randrange(1, 17)), (("b", "a"), rows), False)


class ViewErrorsTest(CheckCase):
    def fails_all(self, error, pattern, view, start=-1, end=-1):
        self.fails(error, holds, pattern, view, start, end)
        self.fails(error, stretches, pattern, view)
        self.fails(error, flags, pattern, view)
        self.fails(error, flags, pattern, view, from_start=True, sticky=True)

    def test_wrong_rows(self):
        for row in ((), (2,), (0,), (0, 2), (-1, 0), (0, 0, 0)):
            self.fails_all(BadRow(row), SEE_B, (("a", "c"), ((0, 1), row, (7, 7))))
            self.fails_all(BadRow(row), SEE_B, (("a", "c"), ((0, 1),) * 30 + (row,)))
        self.fails_all(BadRow((0,)), EMPTY, ((), ((), (0,))))

    def test_ticks(self):
        for ticks in (21, 300):
            self.fails_all(TooLarge("ticks", 20), SEE_A, (("a",), ((0,),) * ticks))
            self.fails_all(TooLarge("ticks", 20), SEE_B, (("a",), ((0,),) * ticks))
        self.same(flags(SEE_A, (("a",), ((1,),) * 20)), (1,) * 20)

    def test_wires_that_are_not_in_the_view(self):
        view = (("a", "c"), ((1, 1),))
        self.fails_all(UnknownWire("b"), SEE_B, view)
        self.fails_all(UnknownWire("b"), ("see", (("d", 1), ("b", 1))), view)
        # Also where the value does not matter.
        self.fails_all(UnknownWire("b"), ("both", NEVER, SEE_B), view)
        self.fails_all(UnknownWire("b"), ("times", SEE_B, 0, 0), view)
        self.fails_all(UnknownWire("b"), ("or", ("see", (("d", 1),)), SEE_B), (("a", "c"), ()))
        self.fails_all(UnknownWire("a"), ("or", SEE_B, SEE_A), ((), ()))
        self.same(flags(ANY, ((), ((), ()))), (1, 1))

    def test_start_and_end(self):
        view = (("a",), ((1,), (0,), (1,)))
        for start in (-1, 4, 10 ** 99, -10 ** 99):
            for end in (-1, 0, 3, 4):
                self.fails(BadIndex(start), holds, SEE_A, view, start, end)
        for start in range(4):
            for end in (start - 1, 4, -1 if start else -3, 10 ** 99):
                self.fails(BadIndex(end), holds, SEE_A, view, start, end)
        self.same(holds(SEE_A, view, 2, 3), True)
        self.same(holds(EMPTY, view, 3, 3), True)
        self.same(holds(SEE_A, view, 3, 3), False)
        self.fails(BadIndex(1), holds, EMPTY, (("a",), ()), 1, 1)
        self.fails(BadIndex(1), holds, EMPTY, (("a",), ()), 0, 1)
        self.fails(UnknownWire("b"), holds, SEE_B, view, -1, 9)


if __name__ == "__main__":
    unittest.main()

"""flatten.py: designs turned into nets (point 22)."""

import unittest

from checks import CheckCase
from wirewatch.errors import BadDesign, TooLarge, UnknownName
from wirewatch.flatten import flat_size, flatten
from wirewatch.nets import net_fault
from wirewatch.reader import parse_design

HALF = """module half
in a b
out sum carry
gate sum xor a b
gate carry and a b
end
"""
FULL = HALF + """module full
in a b c
out sum carry
use h half a b
gate carry or h.carry k.carry
use k half h.sum c
gate sum buf k.sum
end
"""
COUNT = FULL + """module count
in on zero
out s
use f full s on s
reg s 1 f.sum when on clear zero
end
"""


def sized(size):
    """A design whose last module has this flat size: uses of a module of size 3, and gates."""
    uses, gates = (size // 4, size % 4) if size >= 4 else (0, size)
    while uses > 24:
        uses, gates = uses - 1, gates + 4
    lines = ["module part", "in a", "out g", "gate g not a", "reg r 0 g when a", "end",
             "module top", "in a", "out"]
    lines += [f"use u{at} part a" for at in range(uses)]
    lines += [f"gate g{at} buf a" for at in range(gates)]
    return parse_design("\n".join(lines + ["end"]))


class FlattenTest(CheckCase):
    def check(self, text, due, **options):
        design = parse_design(text)
        self.same(flatten(design, **options), due)
        self.same(flat_size(design, **options), len(due[1]) + len(due[2]))
        self.assertIsNone(net_fault(due))

    def test_example_of_the_document(self):
        self.check("module m\nin a\nout r\nreg r 0 a when a\nend\n",
                   (("a",), (("r.hold", "mux", ("a", "r", "a")),), (("r", 0, "r.hold"),), ("r",)))

    def test_gates(self):
        gates = (("sum", "xor", ("a", "b")), ("carry", "and", ("a", "b")))
        self.check(HALF, (("a", "b"), gates, (), ("sum", "carry")))

    def test_registers(self):
        for first, op in ((0, "zero"), (1, "one")):
            head = f"module m\nin d e z\nout r\nreg r {first} d"
            self.check(f"{head}\nend\n", (("d", "e", "z"), (), (("r", first, "d"),), ("r",)))
            self.check(f"{head} when e\nend\n",
                       (("d", "e", "z"), (("r.hold", "mux", ("e", "r", "d")),),
                        (("r", first, "r.hold"),), ("r",)))
            self.check(f"{head} clear z\nend\n",
                       (("d", "e", "z"), (("r.first", op, ()),
                                          ("r.clear", "mux", ("z", "d", "r.first"))),
                        (("r", first, "r.clear"),), ("r",)))
            self.check(f"{head} when e clear z\nend\n",
                       (("d", "e", "z"), (("r.hold", "mux", ("e", "r", "d")),
                                          ("r.first", op, ()),
                                          ("r.clear", "mux", ("z", "r.hold", "r.first"))),
                        (("r", first, "r.clear"),), ("r",)))

    def test_uses(self):
        due = (
            ("a", "b", "c"),
            (("h.a", "buf", ("a",)), ("h.b", "buf", ("b",)),
             ("h.sum", "xor", ("h.a", "h.b")), ("h.carry", "and", ("h.a", "h.b")),
             ("carry", "or", ("h.carry", "k.carry")),
             ("k.a", "buf", ("h.sum",)), ("k.b", "buf", ("c",)),
             ("k.sum", "xor", ("k.a", "k.b")), ("k.carry", "and", ("k.a", "k.b")),
             ("sum", "buf", ("k.sum",))),
            (),
            ("sum", "carry"),
        )
        self.check(FULL, due)
        self.check(FULL, due, top="full")
        self.check(COUNT, due, top="full")

    def test_uses_within_uses(self):
        due = (
            ("on", "zero"),
            (("f.a", "buf", ("s",)), ("f.b", "buf", ("on",)), ("f.c", "buf", ("s",)),
             ("f.h.a", "buf", ("f.a",)), ("f.h.b", "buf", ("f.b",)),
             ("f.h.sum", "xor", ("f.h.a", "f.h.b")), ("f.h.carry", "and", ("f.h.a", "f.h.b")),
             ("f.carry", "or", ("f.h.carry", "f.k.carry")),
             ("f.k.a", "buf", ("f.h.sum",)), ("f.k.b", "buf", ("f.c",)),
             ("f.k.sum", "xor", ("f.k.a", "f.k.b")), ("f.k.carry", "and", ("f.k.a", "f.k.b")),
             ("f.sum", "buf", ("f.k.sum",)),
             ("s.hold", "mux", ("on", "s", "f.sum")), ("s.first", "one", ()),
             ("s.clear", "mux", ("zero", "s.hold", "s.first"))),
            (("s", 1, "s.clear"),),
            ("s",),
        )
        self.check(COUNT, due)
        self.check(COUNT, due, top="count")
        self.check(COUNT, due, top=None)

    def test_registers_and_inputs_within_uses(self):
        text = ("module m\nin e\nout e r\nreg r 1 e when e clear r\nend\n"
                "module top\nin x\nout\nreg q 0 u.r\nuse u m u.e\nreg p 0 u.e clear u.r\nend\n")
        due = (
            ("x",),
            (("u.e", "buf", ("u.e",)), ("u.r.hold", "mux", ("u.e", "u.r", "u.e")),
             ("u.r.first", "one", ()), ("u.r.clear", "mux", ("u.r", "u.r.hold", "u.r.first")),
             ("p.first", "zero", ()), ("p.clear", "mux", ("u.r", "u.e", "p.first"))),
            (("q", 0, "u.r"), ("u.r", 1, "u.r.clear"), ("p", 0, "p.clear")),
            (),
        )
        self.check(text, due)

    def test_each_top(self):
        half = parse_design(HALF)
        self.same(flatten(parse_design(COUNT), top="half"), flatten(half))
        sizes = {"half": 2, "full": 10, "count": 17}
        for name, size in sizes.items():
            self.same(flat_size(parse_design(COUNT), top=name), size)
        self.same(flat_size(parse_design(COUNT)), 17)

    def test_a_chain_of_modules(self):
        lines = ["module m0", "in a", "out g", "gate g not a", "end"]
        for at in range(1, 12):
            lines += [f"module m{at}", "in a", "out a", f"use u m{at - 1} a", "end"]
        design = parse_design("\n".join(lines))
        self.same(flat_size(design), 12)
        net = flatten(design)
        self.same(net[1][0], ("u.a", "buf", ("a",)))
        prefix = "u." * 11
        self.same(net[1][-1], (f"{prefix}g", "not", (f"{prefix}a",)))


class WrongTopTest(CheckCase):
    def fails_both(self, error, design, **options):
        self.fails(error, flat_size, design, **options)
        self.fails(error, flatten, design, **options)

    def test_unknown_top(self):
        design = parse_design(FULL)
        for top in ("", "sum", "Half", "half ", "full.h", "x" * 4000, "!"):
            self.fails_both(UnknownName(top), design, top=top)
            self.fails_both(UnknownName(top), (), top=top)

    def test_no_modules(self):
        self.fails_both(UnknownName(""), ())
        self.fails_both(UnknownName(""), (), top=None)

    def test_a_fault_comes_first(self):
        wrong = parse_design(FULL) + (("half", ("a",), (), ()),)
        for options in ({}, {"top": None}, {"top": "half"}, {"top": "nowhere"}, {"top": ""}):
            self.fails_both(BadDesign("twice", "half", ""), wrong, **options)
        large = sized(201) + (("late", ("a",), ("q",), ()),)
        self.fails_both(BadDesign("signal", "late", "q"), large, top="top")

    def test_unknown_top_comes_before_the_size(self):
        self.fails_both(UnknownName("q"), sized(201), top="q")


class SizeTest(CheckCase):
    def test_sizes_at_the_bound(self):
        for size in (1, 3, 4, 7, 101, 199, 200):
            design = sized(size)
            self.same(flat_size(design), size)
            net = flatten(design)
            self.same(len(net[1]) + len(net[2]), size)
        for size in (201, 202, 240):
            design = sized(size)
            self.same(flat_size(design), size)
            self.fails(TooLarge("gates", 200), flatten, design)
            self.same(flatten(design, top="part")[0], ("a",))

    def test_registers_count(self):
        lines = ["module part", "in a", "out"] + [f"reg r{at} 0 a" for at in range(25)] + ["end"]
        lines += ["module top", "in", "out"] + [f"use u{at} part x" for at in range(7)]
        lines += [f"reg r{at} 0 x" for at in range(17)] + ["reg x 0 x", "end"]
        design = parse_design("\n".join(lines))
        self.same(flat_size(design), 200)
        self.same(len(flatten(design)[2]), 193)
        lines[-2] = "reg x 0 x when x"
        design = parse_design("\n".join(lines))
        self.same(flat_size(design), 201)
        self.fails(TooLarge("gates", 200), flatten, design)

    def test_huge_sizes(self):
        lines = ["module m0", "in a", "out", "reg r 1 a when a clear a", "end"]
        for at in range(1, 12):
            lines += [f"module m{at}", "in a", "out"]
            lines += [f"use u{place} m{at - 1} a" for place in range(30)] + ["end"]
        design = parse_design("\n".join(lines))
        due = 4
        for at in range(12):
            self.same(flat_size(design, top=f"m{at}"), due)
            if due > 200:
                self.fails(TooLarge("gates", 200), flatten, design, top=f"m{at}")
            due = 30 * (due + 1)
        self.fails(TooLarge("gates", 200), flatten, design)
        # A module that the top does not use is not visited, however large it is.
        self.same(len(flatten(design, top="m1")[1]), 120)


if __name__ == "__main__":
    unittest.main()

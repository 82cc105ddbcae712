"""design.py: designs and their faults (points 16 and 17)."""

import unittest

from checks import CheckCase
from wirewatch.design import check_design, design_fault
from wirewatch.errors import BadDesign

HALF = ("half", ("a", "b"), ("sum", "carry", "a"),
        (("gate", "sum", "xor", ("a", "b")), ("gate", "carry", "and", ("a", "b"))))
TICK = ("tick", (), ("r",), (("gate", "n", "not", ("r",)), ("reg", "r", 0, "n", None, None)))


def design_of(*items, inputs=("a", "b"), outputs=(), name="top"):
    """A design whose last module has these items."""
    return (HALF, TICK, (name, inputs, outputs, items))


def gate(name="g", op="and", signals=("a", "b")):
    return ("gate", name, op, signals)


def reg(name="r", first=0, signal="a", when=None, clear=None):
    return ("reg", name, first, signal, when, clear)


def use(name="u", module="half", signals=("a", "b")):
    return ("use", name, module, signals)


GOOD = [
    (),
    (("m", (), (), ()),),
    (HALF,),
    (HALF, TICK),
    design_of(),
    design_of(gate(), reg(), use(), outputs=("g", "r", "a", "b")),
    # Signals of every kind.
    design_of(gate(signals=("a", "h")), gate("h", "not", ("r",)), reg(signal="h"), use("u"),
              gate("k", "mux", ("u.sum", "u.carry", "u.a"))),
    design_of(reg(signal="u.sum", when="u.carry", clear="r"), use("u", signals=("u.sum", "r"))),
    # An output of a use item that stands later, or that uses itself.
    design_of(gate(signals=("u.sum", "v.r")), use("u", signals=("v.r", "g")), use("v", "tick", ())),
    design_of(reg(signal="r", when="r", clear="r")),
    # Names that are words of the text, and one name in two modules.
    design_of(gate("end", "zero", ()), reg("in", 1, "end"), inputs=("gate", "use"), name="a"),
    (HALF, ("sum", ("half",), ("half",), ())),
    # A ring is no fault.
    design_of(gate("g", "buf", ("g",))),
]

NAMES = ("", "A", "1", "a.b", "a b", "abcdefghi", "a\n", "u.")

# Designs with one fault, and the pair of code and item that is due in the module "top".
FAULTS = [(design_of(inputs=("a", name)), ("name", name)) for name in NAMES]
FAULTS += [(design_of(item), ("name", name)) for name in NAMES
           for item in (gate(name), reg(name), use(name))]
FAULTS += [
    (design_of(inputs=("a", "b", "a")), ("twice", "a")),
    (design_of(gate("a")), ("twice", "a")),
    (design_of(reg("b")), ("twice", "b")),
    (design_of(use("b")), ("twice", "b")),
    (design_of(gate(), gate()), ("twice", "g")),
    (design_of(gate(), reg("g")), ("twice", "g")),
    (design_of(reg(), use("r")), ("twice", "r")),
    (design_of(use(), use()), ("twice", "u")),
    (design_of(outputs=("a", "b", "a")), ("twice", "a")),
    (design_of(outputs=("a", "q")), ("signal", "q")),
    (design_of(outputs=("",)), ("signal", "")),
    (design_of(use(), outputs=("u",)), ("signal", "u")),
    (design_of(use(), outputs=("u.sum",)), ("signal", "u.sum")),
    (design_of(outputs=("sum",)), ("signal", "sum")),
    (design_of(gate(op="nand")), ("op", "g")),
    (design_of(gate(op="")), ("op", "g")),
    (design_of(gate(signals=())), ("count", "g")),
    (design_of(gate(signals=("a",))), ("count", "g")),
    (design_of(gate(signals=("a", "b", "a"))), ("count", "g")),
    (design_of(gate(op="zero", signals=("a",))), ("count", "g")),
    (design_of(gate(op="one", signals=("a", "a"))), ("count", "g")),
    (design_of(gate(op="buf")), ("count", "g")),
    (design_of(gate(op="not", signals=())), ("count", "g")),
    (design_of(gate(op="mux")), ("count", "g")),
    (design_of(gate(op="or", signals=("a",))), ("count", "g")),
    (design_of(gate(op="xor", signals=("a",))), ("count", "g")),
    (design_of(reg(first=2)), ("first", "r")),
    (design_of(reg(first=-1)), ("first", "r")),
    (design_of(reg(first=10 ** 99)), ("first", "r")),
    (design_of(use(module="nowhere")), ("use", "u")),
    (design_of(use(module="top")), ("use", "u")),
    (design_of(use(module="")), ("use", "u")),
    (design_of(use(signals=())), ("count", "u")),
    (design_of(use(signals=("a",))), ("count", "u")),
    (design_of(use(signals=("a", "b", "a"))), ("count", "u")),
    (design_of(use(module="tick")), ("count", "u")),
    # Of use items: a name alone, an input that is no output, what is no port at all.
    (design_of(use(), gate(signals=("a", "u"))), ("signal", "g")),
    (design_of(use(), gate(signals=("u.b", "a"))), ("signal", "g")),
    (design_of(use(), gate(signals=("u.q", "a"))), ("signal", "g")),
    (design_of(use(), gate(signals=("u.", "a"))), ("signal", "g")),
    (design_of(use(), gate(signals=("u.sum.", "a"))), ("signal", "g")),
    (design_of(use(), gate(signals=("u.sum.a", "a"))), ("signal", "g")),
    (design_of(use(), gate(signals=(".sum", "a"))), ("signal", "g")),
    (design_of(use(), gate(signals=("half.sum", "a"))), ("signal", "g")),
    (design_of(use(), gate(signals=("v.sum", "a"))), ("signal", "g")),
    (design_of(use("u", "tick", ()), gate(signals=("u.n", "a"))), ("signal", "g")),
    (design_of(gate(), gate("h", signals=("g.a", "a"))), ("signal", "h")),
    (design_of(reg(), gate("h", signals=("r.hold", "a"))), ("signal", "h")),
    (design_of(gate(signals=("", "a"))), ("signal", "g")),
    (design_of(gate(signals=("a", "A b"))), ("signal", "g")),
    (design_of(reg(signal="q")), ("signal", "r")),
    (design_of(reg(when="q")), ("signal", "r")),
    (design_of(reg(clear="q")), ("signal", "r")),
    (design_of(reg(when="")), ("signal", "r")),
    (design_of(reg(clear="")), ("signal", "r")),
    (design_of(reg(when="a", clear="q")), ("signal", "r")),
    (design_of(use(signals=("a", "q"))), ("signal", "u")),
    (design_of(use(signals=("u", "a"))), ("signal", "u")),
]

# Two faults at once; the first one of the two in the order of point 17 is due.
PAIRS = [
    (design_of(inputs=("A", "a", "a")), ("name", "A")),
    (design_of(inputs=("a", "a", "A")), ("twice", "a")),
    (design_of(inputs=("A", "A")), ("name", "A")),
    (design_of(gate("A"), gate("a")), ("name", "A")),
    (design_of(gate("a"), gate("A")), ("twice", "a")),
    (design_of(gate("A"), reg("B")), ("name", "A")),
    (design_of(reg("B"), gate("A")), ("name", "B")),
    # All names before the outputs.
    (design_of(gate("A"), outputs=("q",)), ("name", "A")),
    (design_of(gate("a"), outputs=("b", "b")), ("twice", "a")),
    # Outputs one after another, before the items.
    (design_of(outputs=("q", "a", "a")), ("signal", "q")),
    (design_of(outputs=("a", "a", "q")), ("twice", "a")),
    (design_of(outputs=("q", "q")), ("signal", "q")),
    (design_of(gate(op="nor"), outputs=("q",)), ("signal", "q")),
    (design_of(gate(op="nor"), outputs=("a", "a")), ("twice", "a")),
    # One item: the fault of its kind before its signals.
    (design_of(gate(op="nor", signals=("q",))), ("op", "g")),
    (design_of(gate(signals=("q",))), ("count", "g")),
    (design_of(reg(first=2, signal="q")), ("first", "r")),
    (design_of(reg(first=2, when="q")), ("first", "r")),
    (design_of(use(module="q", signals=("q", "q", "q"))), ("use", "u")),
    (design_of(use(signals=("q",))), ("count", "u")),
    # All at one item before the next one.
    (design_of(gate(signals=("a", "q")), reg(first=2)), ("signal", "g")),
    (design_of(reg(first=2), gate(signals=("a", "q"))), ("first", "r")),
    (design_of(gate(signals=("a", "q")), use(module="q")), ("signal", "g")),
    (design_of(use(module="q"), gate(signals=("a", "q"))), ("use", "u")),
    (design_of(reg(signal="q"), gate(op="nor")), ("signal", "r")),
    (design_of(gate(op="nor"), reg(signal="q")), ("op", "g")),
    (design_of(use(signals=("a",)), gate(op="nor")), ("count", "u")),
    (design_of(gate(op="nor"), use(signals=("a",))), ("op", "g")),
    # A port of a use item that is wrong itself: no signal if its module is no earlier one,
    # but a signal whatever number of signals the use item has.
    (design_of(gate(signals=("u.sum", "a")), use(module="nowhere")), ("signal", "g")),
    (design_of(use(module="nowhere"), gate(signals=("u.sum", "a"))), ("use", "u")),
    (design_of(gate(signals=("u.sum", "a")), use(signals=())), ("count", "u")),
    (design_of(use(signals=()), gate(signals=("u.sum", "q"))), ("count", "u")),
]


class DesignTest(CheckCase):
    def check_fault(self, design, fault):
        with self.subTest(design):
            self.same(design_fault(design), fault)
            self.fails(BadDesign(*fault), check_design, design)

    def test_no_fault(self):
        for design in GOOD:
            with self.subTest(design):
                self.same(design_fault(design), None)
                self.same(check_design(design), None)

    def test_each_fault(self):
        for design, (code, item) in FAULTS:
            self.check_fault(design, (code, "top", item))

    def test_two_faults(self):
        for design, (code, item) in PAIRS:
            self.check_fault(design, (code, "top", item))

    def test_name_of_the_module(self):
        for name in NAMES:
            self.check_fault(design_of(name=name), ("name", name, ""))
            self.check_fault(((name, ("A",), ("q",), ()),), ("name", name, ""))
        for name in ("half", "tick"):
            self.check_fault(design_of(name=name), ("twice", name, ""))
            self.check_fault(design_of(inputs=("A",), outputs=("q",), name=name),
                             ("twice", name, ""))

    def test_module_that_stands_later_or_is_the_same(self):
        user = ("user", ("a", "b"), (), (use(), gate(signals=("u.sum", "a"))))
        self.check_fault((user, HALF), ("use", "user", "u"))
        self.same(design_fault((HALF, user)), None)
        user = ("user", ("a", "b"), (), (gate(signals=("u.sum", "a")), use()))
        self.check_fault((user, HALF), ("signal", "user", "g"))
        self.same(design_fault((HALF, user)), None)
        own = ("own", ("a",), ("a",), (use("u", "own", ("a",)),))
        self.check_fault((own,), ("use", "own", "u"))

    def test_module_that_has_the_name_of_an_op(self):
        like_op = ("and",) + HALF[1:]
        good = ("top", ("a", "b"), (), (gate(), use("u", "and"), gate("h", "buf", ("u.sum",))))
        self.same(design_fault((like_op, good)), None)
        wrong = ("top", ("a", "b"), (), (gate(), gate("h", "buf", ("g.sum",))))
        self.check_fault((like_op, wrong), ("signal", "top", "h"))

    def test_modules_one_after_another(self):
        first = ("first", ("a",), (), (gate(signals=("a", "q")),))
        second = ("A", (), (), ())
        self.check_fault((first, second), ("signal", "first", "g"))
        self.check_fault((second, first), ("name", "A", ""))
        self.check_fault((HALF, first, HALF), ("signal", "first", "g"))
        self.check_fault((HALF, HALF, first), ("twice", "half", ""))

    def test_arguments_are_not_changed(self):
        for design in (GOOD[6], FAULTS[0][0], PAIRS[3][0]):
            before = repr(design)
            design_fault(design)
            self.assertEqual(repr(design), before)


if __name__ == "__main__":
    unittest.main()

"""reader.py: texts of designs and nets (points 18 to 21)."""

import unittest

from checks import CheckCase
from wirewatch.errors import BadDesign, BadNet, BadText
from wirewatch.reader import design_text, net_text, parse_design, parse_net

DESIGN = (
    ("half", ("a", "b"), ("sum", "carry"),
     (("gate", "sum", "xor", ("a", "b")), ("gate", "carry", "and", ("a", "b")))),
    ("none", (), (), ()),
    ("top", ("in", "out", "end"), ("r", "s", "end"),
     (("gate", "gate", "zero", ()), ("gate", "reg", "mux", ("in", "h.sum", "h.carry")),
      ("use", "h", "half", ("in", "s")), ("use", "use", "none", ()),
      ("reg", "r", 0, "gate", None, None), ("reg", "s", 1, "h.sum", "r", None),
      ("reg", "when", 0, "s", None, "clear"), ("reg", "clear", 1, "when", "when", "clear"))),
)
DESIGN_TEXT = """module half
in a b
out sum carry
gate sum xor a b
gate carry and a b
end
module none
in
out
end
module top
in in out end
out r s end
gate gate zero
gate reg mux in h.sum h.carry
use h half in s
use use none
reg r 0 gate
reg s 1 h.sum when r
reg when 0 s clear clear
reg clear 1 when when when clear clear
end
"""
NET = (
    ("a", "u1.b"),
    (("x", "and", ("a", "u1.b")), ("u1.y", "one", ()), ("out", "mux", ("x", "r", "u1.c.d"))),
    (("r", 1, "x"), ("u1.c.d", 0, "r")),
    ("x", "a", "out"),
)
NET_TEXT = """in a u1.b
gate x and a u1.b
gate u1.y one
gate out mux x r u1.c.d
reg r 1 x
reg u1.c.d 0 r
out x a out
"""


def spread(text):
    """The text with more spaces, comments and skipped lines."""
    lines = ["", "   ", "# first", "  #", "   # in a # b", "#in"]
    for line in text.split("\n")[:-1]:
        lines += ["  " + line.replace(" ", "   ") + "    ", "", "  # " + line]
    return "\n".join(lines) + "\n   \n\n#"


class TextsTest(CheckCase):
    def test_text_of_a_design(self):
        self.same(design_text(DESIGN), DESIGN_TEXT)
        self.same(design_text(()), "")
        self.same(design_text((("m", (), (), ()),)), "module m\nin\nout\nend\n")

    def test_text_of_a_net(self):
        self.same(net_text(NET), NET_TEXT)
        self.same(net_text(((), (), (), ())), "in\nout\n")
        ring = ((), (("x", "not", ("x",)),), (), ("x",))
        self.same(net_text(ring), "in\ngate x not x\nout x\n")

    def test_texts_of_wrong_values(self):
        self.fails(BadDesign("signal", "m", "g"), design_text,
                   (("m", (), (), (("gate", "g", "buf", ("q",)),)),))
        self.fails(BadDesign("name", "M", ""), design_text, (("M", (), (), ()),))
        self.fails(BadNet("unknown", "q"), net_text, ((), (), (), ("q",)))
        self.fails(BadNet("first", "r"), net_text, ((), (), (("r", 2, "r"),), ()))


class ReadingTest(CheckCase):
    def test_texts_are_read_back(self):
        self.same(parse_design(DESIGN_TEXT), DESIGN)
        self.same(parse_design(design_text(DESIGN)), DESIGN)
        self.same(parse_net(NET_TEXT), NET)
        self.same(parse_net(net_text(NET)), NET)

    def test_examples_of_the_document(self):
        self.same(parse_net("in a\ngate x not a\nout x\n"),
                  (("a",), (("x", "not", ("a",)),), (), ("x",)))
        self.fails(BadText(2, 13, "missing"), parse_net, "in a\ngate x and a\nout x\n")

    def test_more_spaces_comments_and_skipped_lines(self):
        self.same(parse_design(spread(DESIGN_TEXT)), DESIGN)
        self.same(parse_net(spread(NET_TEXT)), NET)

    def test_the_end_of_the_last_line(self):
        for more in ("", "\n", "\n\n", "\n   ", "   ", "  \n", "\n   \n", "\n#", "\n  # x", "\n#\n"):
            self.same(parse_design(DESIGN_TEXT[:-1] + more), DESIGN)
            self.same(parse_net(NET_TEXT[:-1] + more), NET)

    def test_empty_parts(self):
        self.same(parse_design(""), ())
        for text in ("\n", "   ", "\n\n \n", "# module", "  # x\n"):
            self.same(parse_design(text), ())
        self.same(parse_design("module m\nin\nout\nend"), (("m", (), (), ()),))
        self.same(parse_net("in\nout"), ((), (), (), ()))
        self.same(parse_net("in  \n out "), ((), (), (), ()))

    def test_words_as_names(self):
        for word in ("module", "in", "out", "gate", "reg", "use", "when", "clear", "end", "zero"):
            text = (f"module {word}\nin {word} {word}\nout {word}\ngate {word} buf {word}\n"
                    f"reg {word} 1 {word} when {word} clear {word}\nreg {word} 0 {word}\n"
                    f"reg {word} 0 {word} clear {word}\nuse {word} {word} {word}.{word}\nend\n")
            due = (word, (word, word), (word,), (
                ("gate", word, "buf", (word,)), ("reg", word, 1, word, word, word),
                ("reg", word, 0, word, None, None), ("reg", word, 0, word, None, word),
                ("use", word, word, (f"{word}.{word}",))))
            self.same(parse_design(text), (due,))
            text = f"in {word}\ngate {word} not {word}\nreg {word} 0 {word}\nout {word}\n"
            self.same(parse_net(text), ((word,), ((word, "not", (word,)),), ((word, 0, word),),
                                        (word,)))

    def test_faults_are_not_looked_for(self):
        self.same(parse_net("in a a\ngate x buf q\ngate x buf x\nreg x 0 p\nout y y\n"),
                  (("a", "a"), (("x", "buf", ("q",)), ("x", "buf", ("x",))), (("x", 0, "p"),),
                   ("y", "y")))
        text = "module m\nin a a\nout q q\ngate a buf u.q\nuse u m\nend\nmodule m\nin\nout\nend\n"
        self.same(parse_design(text),
                  (("m", ("a", "a"), ("q", "q"), (("gate", "a", "buf", ("u.q",)),
                                                  ("use", "u", "m", ()))), ("m", (), (), ())))

    def test_a_hash_elsewhere_is_an_ordinary_character(self):
        self.fails(BadText(1, 6, "token"), parse_net, "in a # b\nout\n")
        self.fails(BadText(1, 4, "token"), parse_net, "in #\nout\n")
        self.fails(BadText(1, 10, "extra"), parse_design, "module m # x\n")
        self.fails(BadText(2, 7, "token"), parse_design, "module m\n in a #\n")


# For each wrong text of a net: line, column and code that are due.
NETS = {
    # The text ends too early.
    "": (1, 1, "end"),
    "\n": (2, 1, "end"),
    "   ": (2, 1, "end"),
    "# in\n\n": (3, 1, "end"),
    "in a": (2, 1, "end"),
    "in a\n": (2, 1, "end"),
    "in a\n\n  ": (4, 1, "end"),
    "in a\ngate x not a\n": (3, 1, "end"),
    "in a\nreg x 0 a\n# out\n": (4, 1, "end"),
    # The first token of a line.
    "out\n": (1, 1, "token"),
    "  gate x one\n": (1, 3, "token"),
    "\n\n ins a\n": (3, 2, "token"),
    "IN a\n": (1, 1, "token"),
    "in a\nin b\n": (2, 1, "token"),
    "in a\n\n   use u m\n": (3, 4, "token"),
    "in a\nmodule\n": (2, 1, "token"),
    "in a\nend\n": (2, 1, "token"),
    "in a\ngates\n": (2, 1, "token"),
    "in a\nreg r 0 a\ngate x one\nout\n": (3, 1, "token"),
    "in a\nreg r 0 a\n in\nout\n": (3, 2, "token"),
    # Lists of wires.
    "in a B\nout\n": (1, 6, "token"),
    "in  a.  b\nout\n": (1, 5, "token"),
    "in a,b\nout\n": (1, 4, "token"),
    "in abcdefghi\nout\n": (1, 4, "token"),
    "in a\nout a 1\n": (2, 7, "token"),
    "in a\nout .a\n": (2, 5, "token"),
    # Gates.
    "in a\ngate": (2, 5, "missing"),
    "in a\ngate   \nout\n": (2, 8, "missing"),
    "in a\ngate x\n": (2, 7, "missing"),
    "in a\ngate x not\n": (2, 11, "missing"),
    "in a\n gate  x  not  \nout": (2, 16, "missing"),
    "in a\ngate x and a\n": (2, 13, "missing"),
    "in a\ngate x mux a a\n": (2, 15, "missing"),
    "in a\ngate X not a\n": (2, 6, "token"),
    "in a\ngate x..y not a\n": (2, 6, "token"),
    "in a\ngate x nand a\n": (2, 8, "token"),
    "in a\ngate x a\n": (2, 8, "token"),
    "in a\ngate x not A\n": (2, 12, "token"),
    "in a\ngate x and a a.\n": (2, 14, "token"),
    "in a\ngate x not a a\n": (2, 14, "extra"),
    "in a\ngate x not a   A\n": (2, 16, "extra"),
    "in a\ngate x zero a\n": (2, 13, "extra"),
    "in a\ngate x one #\n": (2, 12, "extra"),
    "in a\ngate x mux a a a a\n": (2, 18, "extra"),
    # Registers.
    "in a\nreg\n": (2, 4, "missing"),
    "in a\nreg r\n": (2, 6, "missing"),
    "in a\nreg r 0\n": (2, 8, "missing"),
    "in a\nreg r 0  \n": (2, 10, "missing"),
    "in a\nreg R 0 a\n": (2, 5, "token"),
    "in a\nreg r 2 a\n": (2, 7, "token"),
    "in a\nreg r 00 a\n": (2, 7, "token"),
    "in a\nreg r a 0\n": (2, 7, "token"),
    "in a\nreg r -1 a\n": (2, 7, "token"),
    "in a\nreg r 0 0\n": (2, 9, "token"),
    "in a\nreg r 0 a when a\n": (2, 11, "extra"),
    "in a\nreg r 1 a  b\n": (2, 12, "extra"),
    # Behind the outputs.
    "in\nout\nin\n": (3, 1, "extra"),
    "in\nout\n\n   out\n": (4, 4, "extra"),
    "in\nout\n?\n": (3, 1, "extra"),
    "in a\nout a\n # x\n  gate x": (4, 3, "extra"),
    # The first mistake counts.
    "in a\ngate x nand A\nout B\n": (2, 8, "token"),
    "in A\ngate x\n": (1, 4, "token"),
    "in a\ngate x not a a\ngate": (2, 14, "extra"),
    "in a\ngate x\nout A": (2, 7, "missing"),
}

# For each wrong text of a design: line, column and code that are due.
DESIGNS = {
    # The text ends too early.
    "module m": (2, 1, "end"),
    "module m\n": (2, 1, "end"),
    "module m\n\n # in\n": (4, 1, "end"),
    "module m\nin a\n": (3, 1, "end"),
    "module m\nin a\nout\n": (4, 1, "end"),
    "module m\nin a\nout\n   ": (5, 1, "end"),
    "module m\nin a\nout\ngate g one\n": (5, 1, "end"),
    "module m\nin\nout\nend\nmodule n": (6, 1, "end"),
    # The first token of a line.
    "in a\n": (1, 1, "token"),
    " end\n": (1, 2, "token"),
    "\n  modules m\n": (2, 3, "token"),
    "module m\nout\n": (2, 1, "token"),
    "module m\nend\n": (2, 1, "token"),
    "module m\nin\nin\n": (3, 1, "token"),
    "module m\nin\n  gate g one\n": (3, 3, "token"),
    "module m\nin\nend\n": (3, 1, "token"),
    "module m\nin\nout\nout\n": (4, 1, "token"),
    "module m\nin\nout\nmodule n\n": (4, 1, "token"),
    "module m\nin\nout\n   wire\n": (4, 4, "token"),
    "module m\nin\nout\nend\nend\n": (5, 1, "token"),
    "module m\nin\nout\nend\n\n  gate g one\n": (6, 3, "token"),
    # Modules.
    "module\n": (1, 7, "missing"),
    "module  ": (1, 9, "missing"),
    "module M\n": (1, 8, "token"),
    "module a.b\n": (1, 8, "token"),
    "module m n\n": (1, 10, "extra"),
    "module m in a\n": (1, 10, "extra"),
    "module m\nin\nout\nend x\n": (4, 5, "extra"),
    "module m\nin\nout\nend #\n": (4, 5, "extra"),
    "module m\nin\nout\n end  end\n": (4, 7, "extra"),
    # Lists of names.
    "module m\nin a.b\n": (2, 4, "token"),
    "module m\nin a  A\n": (2, 7, "token"),
    "module m\nin\nout a.b\n": (3, 5, "token"),
    "module m\nin\nout a 1\n": (3, 7, "token"),
}

# For each wrong line of an item in a design: column and code that are due.
ITEMS = {
    "gate": (5, "missing"),
    "gate  ": (7, "missing"),
    "gate g": (7, "missing"),
    "gate g not": (11, "missing"),
    "gate g not ": (12, "missing"),
    "gate g mux a b": (15, "missing"),
    "gate a.b one": (6, "token"),
    "gate G one": (6, "token"),
    "gate g nor a b": (8, "token"),
    "gate g ONE": (8, "token"),
    "gate g not a.b.c": (12, "token"),
    "gate g not .a": (12, "token"),
    "gate g and a A": (14, "token"),
    "gate g one a": (12, "extra"),
    "gate g not a b": (14, "extra"),
    "gate g not a when b": (14, "extra"),
    "gate  g  not  a  B": (18, "extra"),
    "reg": (4, "missing"),
    "reg r": (6, "missing"),
    "reg r 1": (8, "missing"),
    "reg r 1 a when": (15, "missing"),
    "reg r 1 a when  ": (17, "missing"),
    "reg r 1 a clear": (16, "missing"),
    "reg r 1 a when b clear": (23, "missing"),
    "reg a.b 1 a": (5, "token"),
    "reg r 2 a": (7, "token"),
    "reg r a 0": (7, "token"),
    "reg r 01 a": (7, "token"),
    "reg r 0 a.b.c": (9, "token"),
    "reg r 0 0": (9, "token"),
    "reg r 0 a b": (11, "token"),
    "reg r 0 a whens b": (11, "token"),
    "reg r 0 a WHEN b": (11, "token"),
    "reg r 0 a when B": (16, "token"),
    "reg r 0 a clear a.": (17, "token"),
    "reg r 0 a when b c": (18, "token"),
    "reg r 0 a when b when c": (18, "token"),
    "reg r 0 a when b clear C": (24, "token"),
    "reg r 0 a clear b when c": (19, "extra"),
    "reg r 0 a clear b clear c": (19, "extra"),
    "reg r 0 a clear b  X": (20, "extra"),
    "reg r 0 a when b clear c d": (26, "extra"),
    "reg r 0 a when b clear c when d": (26, "extra"),
    "use": (4, "missing"),
    "use u": (6, "missing"),
    "use u  ": (8, "missing"),
    "use U m": (5, "token"),
    "use a.b m": (5, "token"),
    "use u M": (7, "token"),
    "use u a.b": (7, "token"),
    "use u m A": (9, "token"),
    "use u m a  b.c.d": (12, "token"),
    "use u m a  b.": (12, "token"),
}


class MistakesTest(CheckCase):
    def test_nets(self):
        for text, due in NETS.items():
            with self.subTest(text):
                self.fails(BadText(*due), parse_net, text)

    def test_designs(self):
        for text, due in DESIGNS.items():
            with self.subTest(text):
                self.fails(BadText(*due), parse_design, text)

    def test_items(self):
        for item, (column, code) in ITEMS.items():
            with self.subTest(item):
                head = "module m\nin a\nout\n"
                self.fails(BadText(4, column, code), parse_design, f"{head}{item}\nend\n")
                self.fails(BadText(4, column, code), parse_design, f"{head}{item}")
                self.fails(BadText(7, column + 2, code), parse_design,
                           f"{head}\n# x\ngate g one\n  {item}\nwrong\n")

    def test_each_op_and_each_number_of_arguments(self):
        counts = {"zero": 0, "one": 0, "buf": 1, "not": 1, "and": 2, "or": 2, "xor": 2, "mux": 3}
        for op, count in counts.items():
            for given in range(6):
                line = " ".join(["gate", "g", op] + ["a"] * given)
                net = f"in a\n{line}\nout g\n"
                design = f"module m\nin a\nout g\n{line}\nend\n"
                if given == count:
                    args = ("a",) * count
                    self.same(parse_net(net), (("a",), (("g", op, args),), (), ("g",)))
                    self.same(parse_design(design), (("m", ("a",), ("g",),
                                                      (("gate", "g", op, args),)),))
                    continue
                code = "missing" if given < count else "extra"
                column = len(line) + 1 if given < count else len(f"gate g {op} ") + 2 * count + 1
                self.fails(BadText(2, column, code), parse_net, net)
                self.fails(BadText(4, column, code), parse_design, design)


if __name__ == "__main__":
    unittest.main()

"""Texts of designs and of nets, written and read (points 18 to 21)."""

from wirewatch.design import check_design
from wirewatch.lines import Source
from wirewatch.nets import OP_COUNTS, check_net, is_name, is_op, is_wire

ITEM_WORDS = ("gate", "reg", "use", "end")


def is_signal_text(text):
    """True if the text is a name or two names joined by a dot, otherwise False."""
    return is_wire(text) and text.count(".") <= 1


def read_list(source, word, fits):
    """The tokens behind the word in a line `in ..` or `out ..`."""
    line = source.next_line()
    line.take_word((word,))
    return line.take_rest(fits)


def read_gate(line, fits):
    """The op and the arguments at the end of a gate line."""
    op = line.take(is_op)
    args = line.take_many(OP_COUNTS[op], fits)
    line.finish()
    return op, args


def read_first(line):
    """The first value of a register."""
    return int(line.take_word(("0", "1")))


def read_reg(line, name):
    """The register item whose line has been read up to its name."""
    first = read_first(line)
    signal = line.take(is_signal_text)
    parts = {"when": None, "clear": None}
    words = ("when", "clear")
    while words and line.has_token():
        word = line.take_word(words)
        parts[word] = line.take(is_signal_text)
        words = words[words.index(word) + 1:]
    line.finish()
    return "reg", name, first, signal, parts["when"], parts["clear"]


def read_item(line, word):
    """The item whose line has been read up to its first word."""
    name = line.take(is_name)
    if word == "gate":
        op, signals = read_gate(line, is_signal_text)
        return "gate", name, op, signals
    if word == "reg":
        return read_reg(line, name)
    module = line.take(is_name)
    return "use", name, module, line.take_rest(is_signal_text)


def read_module(source):
    """The next module of a design."""
    line = source.next_line()
    line.take_word(("module",))
    name = line.take(is_name)
    line.finish()
    inputs = read_list(source, "in", is_name)
    outputs = read_list(source, "out", is_name)
    items = []
    line = source.next_line()
    word = line.take_word(ITEM_WORDS)
    while word != "end":
        items.append(read_item(line, word))
        line = source.next_line()
        word = line.take_word(ITEM_WORDS)
    line.finish()
    return name, inputs, outputs, tuple(items)


def parse_design(text):
    """The design that the text describes."""
    source = Source(text)
    modules = []
    while source.has_line():
        modules.append(read_module(source))
    return tuple(modules)


def parse_net(text):
    """The net that the text describes."""
    source = Source(text)
    inputs = read_list(source, "in", is_wire)
    gates = []
    regs = []
    words = ("gate", "reg", "out")
    line = source.next_line()
    word = line.take_word(words)
    while word != "out":
        wire = line.take(is_wire)
        if word == "gate":
            op, args = read_gate(line, is_wire)
            gates.append((wire, op, args))
        else:
            # From here on no gate can stand, but a register or the outputs.
            words = ("reg", "out")
            first = read_first(line)
            regs.append((wire, first, line.take(is_wire)))
            line.finish()
        line = source.next_line()
        word = line.take_word(words)
    outputs = line.take_rest(is_wire)
    source.finish()
    return inputs, tuple(gates), tuple(regs), outputs


def lines_text(lines):
    """The text that has these lines, each a list of tokens."""
    return "".join([" ".join(line) + "\n" for line in lines])


def item_tokens(item):
    """The tokens of the line of the item."""
    if item[0] != "reg":
        kind, name, word, signals = item
        return [kind, name, word, *signals]
    _, name, first, signal, when, clear = item
    tokens = ["reg", name, str(first), signal]
    if when is not None:
        tokens.extend(["when", when])
    if clear is not None:
        tokens.extend(["clear", clear])
    return tokens


def design_text(design):
    """The text of the design."""
    check_design(design)
    lines = []
    for name, inputs, outputs, items in design:
        lines.extend([["module", name], ["in", *inputs], ["out", *outputs]])
        lines.extend([item_tokens(item) for item in items])
        lines.append(["end"])
    return lines_text(lines)


def net_text(net):
    """The text of the net."""
    check_net(net)
    inputs, gates, regs, outputs = net
    lines = [["in", *inputs]]
    lines.extend([["gate", wire, op, *args] for wire, op, args in gates])
    lines.extend([["reg", wire, str(first), source] for wire, first, source in regs])
    lines.append(["out", *outputs])
    return lines_text(lines)

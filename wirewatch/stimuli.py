"""Stimuli and records, their texts, reductions and coverage (points 69 to 73)."""

from wirewatch.batches import Batch, fails, smaller_failing
from wirewatch.errors import Mismatch, NotFailing
from wirewatch.lines import Source
from wirewatch.logic import Circuit
from wirewatch.nets import DIGITS, check_declared, check_net, declared_wires, is_wire
from wirewatch.order import check_sound
from wirewatch.reader import lines_text, read_list
from wirewatch.rows import check_row
from wirewatch.runs import check_stimulus, check_ticks, run

MOST_REPEATS = 99

MOST_REDUCED = 12


def check_wires(wires):
    """Raises BadNet if these cannot be the inputs of a net."""
    check_net((wires, (), (), ()))


def row_token(row):
    """The token of the row."""
    return "".join([str(bit) for bit in row]) if row else "-"


def is_row_token(text, count):
    """True if the text is the token of a row of `count` bits, otherwise False."""
    if count == 0:
        return text == "-"
    return len(text) == count and all([sign in ("0", "1") for sign in text])


def take_row(line, count):
    """The row of `count` bits whose token is the next one of the line."""
    token = line.take(lambda text: is_row_token(text, count))
    return tuple([int(sign) for sign in token]) if count > 0 else ()


def is_repeats(text):
    """True if the text tells how many equal rows there are, otherwise False."""
    return (len(text) <= len(str(MOST_REPEATS)) and text[0] != "0"
            and all([sign in DIGITS for sign in text]))


def equal_rows(stimulus):
    """A list of pairs: a row, and how many equal ones stand one behind the other."""
    groups = []
    for row in stimulus:
        if groups and groups[-1][0] == row:
            groups[-1] = (row, groups[-1][1] + 1)
        else:
            groups.append((row, 1))
    return groups


def group_lines(row, count):
    """A list of the lines of `count` equal rows."""
    token = row_token(row)
    full, left = divmod(count, MOST_REPEATS)
    lines = [[token, "*", str(MOST_REPEATS)] for _ in range(full)]
    if left > 1:
        lines.append([token, "*", str(left)])
    elif left == 1:
        lines.append([token])
    return lines


def stimulus_text(inputs, stimulus):
    """The text of the stimulus."""
    check_wires(inputs)
    check_stimulus(stimulus, len(inputs))
    lines = [["in", *inputs]]
    for row, count in equal_rows(stimulus):
        lines.extend(group_lines(row, count))
    return lines_text(lines)


def read_equal_rows(line, count):
    """A list of the rows of one line."""
    row = take_row(line, count)
    if not line.has_token():
        return [row]
    line.take_word(("*",))
    repeats = int(line.take(is_repeats))
    line.finish()
    return [row for _ in range(repeats)]


def parse_stimulus(text):
    """The inputs and the stimulus that the text describes."""
    source = Source(text)
    inputs = read_list(source, "in", is_wire)
    rows = []
    while source.has_line():
        rows.extend(read_equal_rows(source.next_line(), len(inputs)))
    check_ticks(len(rows))
    return inputs, tuple(rows)


def record_of(net, stimulus):
    """The record of the run on the stimulus."""
    played = run(net, stimulus)
    return net[0], net[3], tuple(zip(stimulus, played.rows))


def check_record(record):
    """Raises BadRow or TooLarge for the ticks of the record."""
    inputs, outputs, ticks = record
    for row, outs in ticks:
        check_row(row, len(inputs))
        check_row(outs, len(outputs))
    check_ticks(len(ticks))


def record_text(record):
    """The text of the record."""
    inputs, outputs, ticks = record
    check_wires(inputs)
    check_wires(outputs)
    check_record(record)
    lines = [["in", *inputs], ["out", *outputs]]
    lines.extend([[row_token(row), row_token(outs)] for row, outs in ticks])
    return lines_text(lines)


def parse_record(text):
    """The record that the text describes."""
    source = Source(text)
    inputs = read_list(source, "in", is_wire)
    outputs = read_list(source, "out", is_wire)
    ticks = []
    while source.has_line():
        line = source.next_line()
        row = take_row(line, len(inputs))
        ticks.append((row, take_row(line, len(outputs))))
        line.finish()
    check_ticks(len(ticks))
    return inputs, outputs, tuple(ticks)


def replay(net, record):
    """None, or the first tick and the first output at which the run differs from the record."""
    check_sound(net)
    check_record(record)
    inputs, outputs, ticks = record
    if inputs != net[0]:
        raise Mismatch("inputs")
    if outputs != net[3]:
        raise Mismatch("outputs")
    played = run(net, tuple([row for row, _ in ticks]))
    for tick, (_, outs) in enumerate(ticks):
        for wire, bit, due in zip(outputs, played.rows[tick], outs):
            if bit != due:
                return tick, wire
    return None


def check_bits(rows):
    """Raises BadRow for the first row with an item that is no bit."""
    for row in rows:
        check_row(row, len(row))


def reductions(stimulus):
    """The reductions of the stimulus."""
    check_bits(stimulus)
    check_ticks(len(stimulus), MOST_REDUCED)
    found = [stimulus[:tick] + stimulus[tick + 1:] for tick in range(len(stimulus))]
    for tick, row in enumerate(stimulus):
        for index, bit in enumerate(row):
            if bit == 1:
                new_row = row[:index] + (0,) + row[index + 1:]
                found.append(stimulus[:tick] + (new_row,) + stimulus[tick + 1:])
    return tuple(found)


def is_row_below(small, large):
    """True if the row can be made from the other one by changing bits to 0, otherwise False."""
    return all([bit <= other for bit, other in zip(small, large)])


def is_below(small, large):
    """True if the stimulus `small` is below the stimulus `large`, otherwise False."""
    for stimulus in (small, large):
        check_bits(stimulus)
        check_ticks(len(stimulus))
    # To take the first row that fits leaves the most rows for what follows.
    found = 0
    for row in large:
        if found < len(small) and is_row_below(small[found], row):
            found += 1
    return found == len(small)


def reduced_circuit(net, wire, stimulus):
    """The circuit of a net of which a stimulus is reduced, after the checks of all three."""
    circuit = Circuit(net)
    check_stimulus(stimulus, len(net[0]), MOST_REDUCED)
    check_declared(net, wire)
    return circuit


def is_smallest(net, wire, stimulus):
    """True if the stimulus is failing for the wire and is smallest, otherwise False."""
    circuit = reduced_circuit(net, wire, stimulus)
    return (fails(circuit, wire, stimulus)
            and smaller_failing(circuit, wire, stimulus) is None)


def shrink(net, wire, stimulus):
    """A smallest failing stimulus that is below the given one."""
    circuit = reduced_circuit(net, wire, stimulus)
    if not fails(circuit, wire, stimulus):
        raise NotFailing()
    found = stimulus
    smaller = smaller_failing(circuit, wire, found)
    while smaller is not None:
        found = smaller
        smaller = smaller_failing(circuit, wire, found)
    return found


class Coverage:
    """What is seen and visited in some runs. It never changes.

    `wires` and `regs` are the declared wires and the registers of the net, `known`
    and `states` are dicts of what is seen and of what is visited.
    """

    def __init__(self, wires, regs, known, states):
        pairs = [(wire, bit) for wire in wires for bit in (0, 1)]
        # The last register weighs most, so states are sorted by their bits from behind.
        turned = sorted([state[::-1] for state in states])
        self.wires = wires
        self.regs = regs
        self.known = known
        self.seen = tuple([pair for pair in pairs if pair in known])
        self.missing = tuple([pair for pair in pairs if pair not in known])
        self.visited = tuple([state[::-1] for state in turned])

    def __len__(self):
        return len(self.seen)

    def __contains__(self, pair):
        return pair in self.known

    def __or__(self, other):
        if self.wires != other.wires:
            raise Mismatch("wires")
        if self.regs != other.regs:
            raise Mismatch("regs")
        known = {pair: True for pair in self.seen + other.seen}
        states = {state: True for state in self.visited + other.visited}
        return Coverage(self.wires, self.regs, known, states)

    def __eq__(self, other):
        return (isinstance(other, Coverage) and self.seen == other.seen
                and self.missing == other.missing and self.visited == other.visited)

    def __ne__(self, other):
        return not self == other


def seen_pairs(values, active):
    """A list of the pairs (wire, bit) that are seen in the runs of the set `active`."""
    found = [(wire, 1) for wire, word in values.items() if word & active != 0]
    return found + [(wire, 0) for wire, word in values.items() if word & active != active]


def tick_words(stimuli, tick, places, count):
    """The values of the `count` inputs at a tick of those runs that have it."""
    return [sum([stimuli[place][tick][index] << place for place in places])
            for index in range(count)]


def coverage(net, stimuli):
    """What is seen and visited in the runs on these stimuli."""
    circuit = Circuit(net)
    count = len(net[0])
    for stimulus in stimuli:
        check_stimulus(stimulus, count)
    batch = Batch(circuit, len(stimuli))
    known = {}
    states = {circuit.first_state: True} if stimuli else {}
    for tick in range(max([len(stimulus) for stimulus in stimuli], default=0)):
        places = [place for place, stimulus in enumerate(stimuli) if tick < len(stimulus)]
        values = batch.play(tick_words(stimuli, tick, places, count))
        for pair in seen_pairs(values, sum([1 << place for place in places])):
            known[pair] = True
        for place in places:
            states[batch.state_of(place)] = True
    return Coverage(declared_wires(net), tuple(circuit.regs), known, states)

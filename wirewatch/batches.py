"""Many runs of one net at once (points 58, 72 and 73)."""

from wirewatch.patterns import one_bits
from wirewatch.rows import lowest_one
from wirewatch.words import full_value


class Batch:
    """Runs from the first state. Bit `i` of each integer belongs to run `i`."""

    def __init__(self, circuit, count):
        self.played = circuit
        self.full = full_value(count)
        self.held = [self.full * bit for bit in circuit.first_state]

    def play(self, words):
        """Plays one tick of each run. Returns the values of all wires."""
        values = self.played.spread(words, self.held, self.full)
        self.held = self.played.next_values(values)
        return values

    def state_of(self, place):
        """The state of one run."""
        return tuple([(word >> place) & 1 for word in self.held])


def changed_runs(circuit, wire, rows, changes, count):
    """The runs that are failing, of `count` runs on the rows with these changes.

    `changes` has the values that a bit, given as `(tick, index)`, has in the runs.
    """
    batch = Batch(circuit, count)
    found = 0
    for tick, row in enumerate(rows):
        words = [changes.get((tick, index), batch.full * bit) for index, bit in enumerate(row)]
        found = batch.play(words)[wire]
    return found


def shorter_runs(circuit, wire, rows):
    """The runs that are failing, where run `i` is that without tick `i`."""
    batch = Batch(circuit, len(rows))
    found = 0
    for tick in range(len(rows) - 1):
        # The runs without this tick or an earlier one read the row behind it.
        behind = full_value(tick + 1)
        others = batch.full ^ behind
        words = [behind * after + others * bit for bit, after in zip(rows[tick], rows[tick + 1])]
        found = batch.play(words)[wire]
    return found


def fails(circuit, wire, rows):
    """True if the stimulus is failing for the wire, otherwise False."""
    return changed_runs(circuit, wire, rows, {}, 1) == 1


def one_places(rows):
    """A list of the pairs (tick, index) of all bits 1, in order."""
    return [(tick, index) for tick, row in enumerate(rows)
            for index, bit in enumerate(row) if bit == 1]


def with_zeros(rows, places):
    """The rows with bits 0 at these places, a list of pairs (tick, index)."""
    cleared = {place: True for place in places}
    return tuple([tuple([0 if (tick, index) in cleared else bit for index, bit in enumerate(row)])
                  for tick, row in enumerate(rows)])


def smaller_failing(circuit, wire, rows):
    """A failing stimulus that is below this one and is another one, or None if it is smallest.

    Where single bits can be changed, as many of them as possible are changed at
    once, the first ones: run `i` has changed all up to the one with the number `i`.
    """
    shorter = shorter_runs(circuit, wire, rows)
    if shorter != 0:
        tick = lowest_one(shorter)
        return rows[:tick] + rows[tick + 1:]
    ones = one_places(rows)
    full = full_value(len(ones))
    changes = {place: full ^ (1 << number) for number, place in enumerate(ones)}
    failing = changed_runs(circuit, wire, rows, changes, len(ones))
    if failing == 0:
        return None
    chosen = [ones[number] for number in one_bits(failing)]
    changes = {place: full_value(number) for number, place in enumerate(chosen)}
    failing = changed_runs(circuit, wire, rows, changes, len(chosen))
    return with_zeros(rows, chosen[:failing.bit_length()])

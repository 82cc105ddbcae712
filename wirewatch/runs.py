"""Runs of nets on stimuli, and a simulator (points 35 and 36)."""

from wirewatch.errors import BadIndex, TooLarge, UnknownWire
from wirewatch.logic import Circuit
from wirewatch.nets import check_declared, declared_wires
from wirewatch.rows import check_row, check_rows

MOST_TICKS = 300


def check_ticks(count, most=MOST_TICKS):
    """Raises TooLarge if these are more than `most` ticks."""
    if count > most:
        raise TooLarge("ticks", most)


def check_stimulus(stimulus, count, most=MOST_TICKS):
    """Raises BadRow for the first wrong row, then TooLarge for more than `most` rows."""
    check_rows(stimulus, count)
    check_ticks(len(stimulus), most)


def begun_state(circuit, state):
    """The state at tick 0. None means the first state."""
    if state is None:
        return circuit.first_state
    check_row(state, len(circuit.first_state))
    return state


class Run:
    """A run. It never changes."""

    def __init__(self, declared, rows, ticks, states):
        self.rows = rows
        self.declared = declared
        self.ticks = ticks
        self.states = states

    @property
    def last_state(self):
        """The state after the last tick."""
        return self.states[len(self.rows)]

    def __len__(self):
        return len(self.rows)

    def __iter__(self):
        return iter(self.rows)

    def __getitem__(self, at):
        if at not in self.declared:
            raise UnknownWire(at)
        return tuple([values[at] for values in self.ticks])

    def at(self, tick):
        """A dict from each declared wire to its value at the tick."""
        if not 0 <= tick < len(self.rows):
            raise BadIndex(tick)
        return dict(self.ticks[tick])

    def state_at(self, tick):
        """The state at the tick, or behind the last one."""
        if not 0 <= tick <= len(self.rows):
            raise BadIndex(tick)
        return self.states[tick]

    def view(self, names):
        """The view of these wires."""
        for name in names:
            if name not in self.declared:
                raise UnknownWire(name)
        rows = [tuple([values[name] for name in names]) for values in self.ticks]
        return names, tuple(rows)


def run(net, stimulus, *, state=None):
    """The run of the net on the stimulus."""
    circuit = Circuit(net)
    check_stimulus(stimulus, len(net[0]))
    ticks = []
    states = [begun_state(circuit, state)]
    for row in stimulus:
        values = circuit.spread(row, states[-1])
        ticks.append(values)
        states.append(circuit.next_values(values))
    rows = tuple([circuit.output_values(values) for values in ticks])
    return Run(declared_wires(net), rows, ticks, states)


class Simulator:
    """A net that is played tick by tick."""

    def __init__(self, net, *, state=None):
        self.net = net
        self.played = Circuit(net)
        self.now = begun_state(self.played, state)
        # The states just before the steps, one for each tick before the current one.
        self.past = []

    @property
    def state(self):
        """The state at the current tick."""
        return self.now

    @property
    def tick(self):
        """The number of the current tick."""
        return len(self.past)

    def put(self, state):
        """Makes this row the state at the current tick."""
        check_row(state, len(self.now))
        self.now = state

    def step(self, row):
        """Goes on to the next tick. Returns the output row."""
        check_row(row, len(self.net[0]))
        values = self.played.spread(row, self.now)
        self.past.append(self.now)
        self.now = self.played.next_values(values)
        return self.played.output_values(values)

    def peek(self, row, wire):
        """The value of the wire at the row and the current state."""
        check_row(row, len(self.net[0]))
        check_declared(self.net, wire)
        return self.played.spread(row, self.now)[wire]

    def back(self, count):
        """Goes back by `count` ticks, to the state before the step that was made there."""
        if not 0 <= count <= len(self.past):
            raise BadIndex(count)
        if count > 0:
            tick = len(self.past) - count
            self.now = self.past[tick]
            self.past = self.past[:tick]

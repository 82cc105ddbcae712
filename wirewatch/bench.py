"""A bench that plays a net and watches it (point 74)."""

from wirewatch.errors import BadIndex, NameTaken, NothingLeft, UnknownName, UnknownWire
from wirewatch.joining import join_nets
from wirewatch.logic import Circuit
from wirewatch.machines import letters_of
from wirewatch.making import flag_machine
from wirewatch.nets import check_declared, check_name, declared_wires, is_among
from wirewatch.patterns import check_pattern, names_of
from wirewatch.rows import check_row
from wirewatch.runs import check_ticks
from wirewatch.stimuli import coverage
from wirewatch.watch import shown_flags, watcher


class Bench:
    """A net that is played tick by tick, with watches, whose deeds can be taken back.

    A watch is a pair of its name and its flag machine. A deed is a triple: the row
    that it feeds or None, the watches before it and those after it.
    """

    def __init__(self, net):
        self.net = net
        self.played = Circuit(net)
        self.wires = declared_wires(net)
        self.watches = ()
        self.fed = []
        self.outs = []
        self.ticks = []
        self.states = [self.played.first_state]
        self.past = []
        self.ahead = []

    def play(self, row):
        """Plays one tick."""
        values = self.played.spread(row, self.states[-1])
        self.fed.append(row)
        self.outs.append(self.played.output_values(values))
        self.ticks.append(values)
        self.states.append(self.played.next_values(values))

    def perform(self, deed):
        """Does a deed, for the first time or again."""
        row, _, after = deed
        if row is not None:
            self.play(row)
        self.watches = after
        self.past.append(deed)

    def begin(self, deed):
        """Does a new deed, which forgets those that are taken back."""
        self.perform(deed)
        self.ahead = []

    def place_of(self, name):
        """The place of the watch with this name."""
        for place, (known, _) in enumerate(self.watches):
            if known == name:
                return place
        raise UnknownName(name)

    def feed(self, row):
        """Plays one tick. Returns its output row."""
        check_row(row, len(self.net[0]))
        check_ticks(len(self.fed) + 1)
        self.begin((row, self.watches, self.watches))
        return self.outs[-1]

    def watch(self, name, pattern, *, from_start=False, sticky=False):
        """Adds a watch."""
        check_name(name)
        check_pattern(pattern)
        for wire in names_of(pattern):
            check_declared(self.net, wire)
        if name in self.names or is_among(name, self.wires):
            raise NameTaken(name)
        machine = flag_machine(pattern, from_start=from_start, sticky=sticky)
        self.begin((None, self.watches, self.watches + ((name, machine),)))

    def unwatch(self, name):
        """Takes away the watch with this name."""
        place = self.place_of(name)
        self.begin((None, self.watches, self.watches[:place] + self.watches[place + 1:]))

    def flags(self, name):
        """The flags of the watch with this name, one for each tick."""
        _, machine = self.watches[self.place_of(name)]
        rows = [tuple([values[wire] for wire in machine[0]]) for values in self.ticks]
        return shown_flags(machine, letters_of((machine[0], tuple(rows))))

    def undo(self):
        """Takes back the latest done deed."""
        if not self.past:
            raise NothingLeft("undo")
        deed = self.past.pop()
        row, before, _ = deed
        if row is not None:
            self.fed.pop()
            self.outs.pop()
            self.ticks.pop()
            self.states.pop()
        self.watches = before
        self.ahead.append(deed)

    def redo(self):
        """Does again the deed that was taken back latest."""
        if not self.ahead:
            raise NothingLeft("redo")
        self.perform(self.ahead.pop())

    def undo_to(self, count):
        """Takes back the latest done deeds until `count` of them are left."""
        if not 0 <= count <= len(self.past):
            raise BadIndex(count)
        while len(self.past) > count:
            self.undo()

    @property
    def stimulus(self):
        """The rows that were fed."""
        return tuple(self.fed)

    @property
    def current(self):
        """The state after the rows that were fed."""
        return self.states[-1]

    @property
    def names(self):
        """The names of the watches, in the order in which they were added."""
        return tuple([name for name, _ in self.watches])

    @property
    def done(self):
        """The number of done deeds."""
        return len(self.past)

    def __len__(self):
        return len(self.outs)

    def __iter__(self):
        return iter(self.outs)

    def __getitem__(self, at):
        if at not in self.wires:
            raise UnknownWire(at)
        return tuple([values[at] for values in self.ticks])

    def record(self):
        """The record of the net and the rows that were fed."""
        return self.net[0], self.net[3], tuple(zip(self.fed, self.outs))

    def coverage(self):
        """The coverage of the net and the rows that were fed."""
        return coverage(self.net, (self.stimulus,))

    def circuit(self, *, one_hot=False):
        """The net with the watchers of all watches."""
        found = self.net
        for name, machine in self.watches:
            found = join_nets(found, watcher(machine, name, one_hot=one_hot))
        return found

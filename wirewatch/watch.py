"""Watchers of machines, and flags in runs (points 35, 36, 39, 45 and 53 to 56)."""

from wirewatch.errors import NameTaken
from wirewatch.joining import join_nets
from wirewatch.machines import check_machine, check_names, found_machine
from wirewatch.machines import least, letters_of, passed_states
from wirewatch.making import STATES, flag_machine
from wirewatch.nets import check_declared, check_name, declared_wires, is_among
from wirewatch.order import check_sound
from wirewatch.patterns import MOST_SEEN_TICKS, check_pattern, flags, names_of
from wirewatch.runs import MOST_TICKS, check_stimulus, run
from wirewatch.spaces import small_space
from wirewatch.walks import check_most


class Parts:
    """The gates of a watcher, put together one after another."""

    def __init__(self, prefix):
        self.prefix = prefix
        self.gates = []
        self.zero = self.drive("zero", ())
        self.one = self.drive("one", ())

    def drive(self, op, args):
        """The wire of a new gate."""
        wire = f"{self.prefix}.g{len(self.gates)}"
        self.gates.append((wire, op, args))
        return wire

    def both(self, first, second):
        """A wire that is 1 if these two are."""
        return second if first == self.one else self.drive("and", (first, second))

    def any_of(self, wires):
        """A wire that is 1 if one of these is."""
        if not wires:
            return self.zero
        found = wires[0]
        for wire in wires[1:]:
            found = self.drive("or", (found, wire))
        return found

    def number_wires(self, wires, count):
        """A list of wires, one for each number below `count`: 1 if the wires show this number."""
        found = [self.one]
        for wire in wires:
            other = self.drive("not", (wire,))
            found = ([self.both(part, other) for part in found]
                     + [self.both(part, wire) for part in found])
        return found[:count]


def next_wires(parts, machine, shown):
    """A list of wires, one for each state: 1 if it is the next one."""
    names, moves, marks = machine
    letters = parts.number_wires(names, 1 << len(names))
    ways = [[] for _ in marks]
    for state, row in enumerate(moves):
        for letter, after in enumerate(row):
            ways[after].append(parts.both(shown[state], letters[letter]))
    return [parts.any_of(wires) for wires in ways]


def register_bits(count, one_hot):
    """A list for each register of a watcher: whether it shows 1 at each of `count` states."""
    if one_hot:
        return [[state == place for state in range(count)] for place in range(count)]
    return [[(state >> place) & 1 == 1 for state in range(count)]
            for place in range((count - 1).bit_length())]


def watcher_net(machine, name, one_hot):
    """The watcher of a least machine."""
    names, _, marks = machine
    parts = Parts(name)
    shows = register_bits(len(marks), one_hot)
    wires = [f"{name}.r{place}" for place in range(len(shows))]
    shown = wires if one_hot else parts.number_wires(wires, len(marks))
    nexts = next_wires(parts, machine, shown)
    regs = []
    for wire, bits in zip(wires, shows):
        source = parts.any_of([after for after, bit in zip(nexts, bits) if bit])
        regs.append((wire, 1 if bits[0] else 0, source))
    flag = parts.any_of([after for after, mark in zip(nexts, marks) if mark == 1])
    gates = parts.gates + [(f"{name}.flag", "buf", (flag,))]
    return names, tuple(gates), tuple(regs), (f"{name}.flag",)


def watcher(machine, name, *, one_hot=False):
    """A watcher of the machine."""
    check_machine(machine)
    check_name(name)
    if is_among(name, machine[0]):
        raise NameTaken(name)
    made = least(machine)
    check_most(len(made[2]), STATES)
    return watcher_net(made, name, one_hot)


def attach(net, pattern, name, *, from_start=False, sticky=False, one_hot=False):
    """The net with a watcher of the pattern."""
    check_sound(net)
    check_pattern(pattern)
    check_name(name)
    for wire in names_of(pattern):
        check_declared(net, wire)
    if is_among(name, declared_wires(net)):
        raise NameTaken(name)
    machine = flag_machine(pattern, from_start=from_start, sticky=sticky)
    return join_nets(net, watcher(machine, name, one_hot=one_hot))


def seen_view(net, pattern, stimulus, most):
    """The view of the wires of the pattern in the run on at most `most` rows.

    The view raises UnknownWire for a wire that is not declared.
    """
    check_sound(net)
    check_pattern(pattern)
    check_stimulus(stimulus, len(net[0]), most)
    return run(net, stimulus).view(names_of(pattern))


def plain_flags(net, pattern, stimulus, *, from_start=False, sticky=False):
    """The flags of the pattern in the run on the stimulus, by the plain reading."""
    view = seen_view(net, pattern, stimulus, MOST_SEEN_TICKS)
    return flags(pattern, view, from_start=from_start, sticky=sticky)


def shown_flags(machine, letters):
    """The marks of a flag machine at each tick."""
    return tuple([machine[2][state] for state in passed_states(machine, letters)[1:]])


def machine_flags(net, pattern, stimulus, *, from_start=False, sticky=False):
    """The flags of the pattern in the run on the stimulus, by the flag machine."""
    view = seen_view(net, pattern, stimulus, MOST_TICKS)
    machine = flag_machine(pattern, from_start=from_start, sticky=sticky)
    return shown_flags(machine, letters_of(view))


def machine_from(net, wire):
    """The machine of a wire of a small net."""
    space, tables = small_space(net)
    check_names(net[0])
    check_declared(net, wire)
    word = tables[wire]
    # A key is a state, and the value that the wire had one tick before.
    return found_machine(
        net[0], (space.start, 0),
        lambda key, letter: (space.follow(key[0], letter),
                             (space.rows_with(word, key[0]) >> letter) & 1),
        lambda key: key[1] == 1,
        limit=STATES)

"""Machines that read letter rows, and their least forms (points 49 to 51)."""

from wirewatch.errors import BadIndex, BadMachine, BadRow, Mismatch, TooLarge, UnknownWire
from wirewatch.nets import gate_value, is_wire, names_fault
from wirewatch.patterns import MOST_NAMES, check_view, one_bits
from wirewatch.rows import row_number
from wirewatch.walks import check_most, explore, way_to

MOST_LENGTH = 60

# The limit of the machines that are made from one or two others.
MADE_STATES = ("states", 60)


def are_moves(moves, count):
    """True if each item has a number of a state for each of `count` letters."""
    for row in moves:
        if len(row) != count or not all([0 <= after < len(moves) for after in row]):
            return False
    return True


def machine_fault(machine):
    """The first fault of the machine, or None."""
    names, moves, marks = machine
    if len(names) > MOST_NAMES or names_fault(names, is_wire) is not None:
        return "names"
    if len(moves) == 0 or len(moves) != len(marks):
        return "states"
    if not are_moves(moves, 1 << len(names)):
        return "moves"
    if not all([mark in (0, 1) for mark in marks]):
        return "marks"
    return None


def check_machine(machine):
    """Raises BadMachine with the first fault, if there is one."""
    code = machine_fault(machine)
    if code is not None:
        raise BadMachine(code)


def check_letters(machine, letters):
    """Raises BadRow if an item is no letter of the machine."""
    count = 1 << len(machine[0])
    if not all([0 <= letter < count for letter in letters]):
        raise BadRow(letters)


def check_names(names):
    """Raises TooLarge if these are too many wires for a machine."""
    if len(names) > MOST_NAMES:
        raise TooLarge("names", MOST_NAMES)


def check_same_names(first, second):
    """Raises Mismatch if the wires of the two machines differ."""
    if first[0] != second[0]:
        raise Mismatch("names")


def passed_states(machine, letters):
    """A list of the start and the states that are reached by each letter in turn."""
    _, moves, _ = machine
    found = [0]
    for letter in letters:
        found.append(moves[found[-1]][letter])
    return found


def state_after(machine, letters):
    """The state that is reached from the start."""
    check_machine(machine)
    check_letters(machine, letters)
    return passed_states(machine, letters)[-1]


def accepts(machine, letters):
    """True if the machine accepts the letter row, otherwise False."""
    state = state_after(machine, letters)
    return machine[2][state] == 1


def alike_classes(moves, marks, limit):
    """A list of numbers, one for each state; states with equal numbers accept the same rows.

    Classes that are told apart once stay apart, so their number can be held
    against the limit long before all of them are found.
    """
    classes = list(marks)
    count = len(set(classes))
    while True:
        check_most(count, limit)
        numbers = {}
        refined = []
        for state, row in enumerate(moves):
            key = (classes[state], *[classes[after] for after in row])
            refined.append(numbers.setdefault(key, len(numbers)))
        if len(numbers) == count:
            return classes
        classes = refined
        count = len(numbers)


def least_form(names, moves, marks, limit):
    """The least machine of a machine whose states are all reached."""
    classes = alike_classes(moves, marks, limit)
    members = {number: state for state, number in enumerate(classes)}
    found, least_moves = explore(
        classes[0], 1 << len(names),
        lambda number, letter: classes[moves[members[number]][letter]])
    return names, least_moves, tuple([marks[members[number]] for number in found])


def found_machine(names, first, follow, marked, *, walk_limit=None, limit=None):
    """The least machine whose states are the keys that are reached from the first one.

    `follow(key, letter)` is the key that follows, and `marked(key)` is True or
    False. `walk_limit` holds for the number of keys, `limit` for that of states.
    """
    keys, moves = explore(first, 1 << len(names), follow, walk_limit)
    marks = [1 if marked(key) else 0 for key in keys]
    return least_form(names, moves, marks, limit)


def least(machine):
    """The least machine."""
    check_machine(machine)
    names, moves, marks = machine
    return found_machine(
        names, 0,
        lambda state, letter: moves[state][letter],
        lambda state: marks[state] == 1)


def flip(machine):
    """The least machine that accepts exactly what the given machine does not accept."""
    check_machine(machine)
    names, moves, marks = machine
    return found_machine(
        names, 0,
        lambda state, letter: moves[state][letter],
        lambda state: marks[state] == 0)


def both_follow(first, second):
    """The function that leads both machines from a pair of their states by one letter."""
    return lambda pair, letter: (first[1][pair[0]][letter], second[1][pair[1]][letter])


def joined_machine(op, first, second, limit):
    """The least machine that accepts what the op says of the two machines."""
    return found_machine(
        first[0], (0, 0), both_follow(first, second),
        lambda pair: gate_value(op, (first[2][pair[0]], second[2][pair[1]])) == 1,
        limit=limit)


def combine_machines(op, first, second):
    """The least machine that accepts what the op says of two machines with the same wires."""
    check_machine(first)
    check_machine(second)
    check_same_names(first, second)
    return joined_machine(op, first, second, MADE_STATES)


def turn(machine):
    """The least machine that accepts what the given machine accepts from end to beginning."""
    names, moves, marks = least(machine)
    # Sets of states are kept as integers. For each letter and state: the states before it.
    before = [[0 for _ in moves] for _ in range(1 << len(names))]
    for state, row in enumerate(moves):
        for letter, after in enumerate(row):
            before[letter][after] = before[letter][after] | (1 << state)
    return found_machine(
        names, sum([mark << state for state, mark in enumerate(marks)]),
        lambda held, letter: sum([before[letter][state] for state in one_bits(held)]),
        lambda held: held & 1 == 1,
        walk_limit=MADE_STATES)


def widen(machine, names):
    """The least machine over these wires that reads what the given machine reads."""
    check_machine(machine)
    check_names(names)
    old_names, moves, marks = machine
    for wire in old_names:
        if wire not in names:
            raise UnknownWire(wire)
    places = [names.index(wire) for wire in old_names]
    old_letters = [row_number(tuple([(letter >> place) & 1 for place in places]))
                   for letter in range(1 << len(names))]
    return found_machine(
        names, 0,
        lambda state, letter: moves[state][old_letters[letter]],
        lambda state: marks[state] == 1)


def first_row(first, count, follow, marked):
    """The least letter row that leads from the first key to a marked one, or None."""
    keys, moves = explore(first, count, follow)
    for place, key in enumerate(keys):
        if marked(key):
            return way_to(moves, place)
    return None


def shortest_row(machine):
    """The least letter row that the machine accepts, or None."""
    check_machine(machine)
    names, moves, marks = machine
    return first_row(
        0, 1 << len(names),
        lambda state, letter: moves[state][letter],
        lambda state: marks[state] == 1)


def telling_row(first, second):
    """The least letter row that exactly one of the two machines accepts, or None."""
    check_machine(first)
    check_machine(second)
    check_same_names(first, second)
    return first_row(
        (0, 0), 1 << len(first[0]), both_follow(first, second),
        lambda pair: first[2][pair[0]] != second[2][pair[1]])


def is_telling(first, second, letters):
    """True if exactly one of the two machines accepts the letter row, otherwise False."""
    check_machine(first)
    check_machine(second)
    check_letters(first, letters)
    check_same_names(first, second)
    return accepts(first, letters) != accepts(second, letters)


def count_rows(machine, length):
    """The number of letter rows of this length that the machine accepts."""
    check_machine(machine)
    if not 0 <= length <= MOST_LENGTH:
        raise BadIndex(length)
    _, moves, marks = machine
    counts = list(marks)
    for _ in range(length):
        counts = [sum([counts[after] for after in row]) for row in moves]
    return counts[0]


def letters_of(view):
    """The letters of the rows of the view."""
    check_view(view)
    names, rows = view
    check_names(names)
    return tuple([row_number(row) for row in rows])

"""Small nets as numbers: what follows at each row and state (points 26, 27 and 57)."""

from wirewatch.logic import small_circuit
from wirewatch.rows import lowest_one, number_row, row_number
from wirewatch.walks import explore, way_to
from wirewatch.words import full_value


def joint_numbers(words, count):
    """A list with one number for each joint row: its bit `i` is the bit of the word `i`."""
    return [sum([((word >> joint) & 1) << at for at, word in enumerate(words)])
            for joint in range(1 << count)]


class Space:
    """The rows and the states of a small net, given by their row numbers.

    `words` are the values of the tables of the sources of the registers.
    """

    def __init__(self, input_count, first_state, words):
        self.input_count = input_count
        self.reg_count = len(first_state)
        self.row_count = 1 << input_count
        self.state_count = 1 << len(first_state)
        self.start = row_number(first_state)
        self.afters = joint_numbers(words, input_count + len(first_state))

    def follow(self, state, row):
        """The next state."""
        return self.afters[row + (state << self.input_count)]

    def next_states(self, state):
        """A list of the next states at all rows, ascending by row."""
        begin = state << self.input_count
        return self.afters[begin:begin + self.row_count]

    def rows_with(self, word, state):
        """The rows at which a table shows 1, as bits of an integer."""
        return (word >> (state << self.input_count)) & full_value(self.row_count)

    def state_row(self, state):
        """The state as a row."""
        return number_row(state, self.reg_count)

    def path(self, numbers):
        """The stimulus whose rows have these numbers."""
        return tuple([number_row(number, self.input_count) for number in numbers])

    def walked(self):
        """All reached states by their least paths, and their moves."""
        return explore(self.start, self.row_count, lambda state, row: self.follow(state, row))


def small_space(net):
    """The space of a net that must be small, and the tables of its wires."""
    circuit = small_circuit(net)
    tables = circuit.tables()
    space = Space(len(circuit.inputs), circuit.first_state, circuit.next_values(tables))
    return space, tables


def least_path(space, state):
    """The least stimulus that leads to the state, or None if it is not reached."""
    states, moves = space.walked()
    if state not in states:
        return None
    return space.path(way_to(moves, states.index(state)))


def least_failing(space, word):
    """The least stimulus at whose last tick the table shows 1, or None.

    It goes on from the first state with such a row: among the states in the
    order of their least paths, a later one has a longer or a greater path.
    """
    states, moves = space.walked()
    for place, state in enumerate(states):
        rows = space.rows_with(word, state)
        if rows != 0:
            return space.path(way_to(moves, place) + (lowest_one(rows),))
    return None

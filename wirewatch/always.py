"""Wires that never fail, and what shows it (points 27, 28, 35 and 57 to 62)."""

from wirewatch.errors import BadIndex, Mismatch, TooLarge, UnknownWire
from wirewatch.logic import MOST_JOINT, Circuit, joint_count
from wirewatch.order import check_sound
from wirewatch.reach import level_states
from wirewatch.rows import check_rows, input_word, row_number
from wirewatch.runs import check_stimulus, run
from wirewatch.spaces import Space, least_failing, small_space
from wirewatch.words import full_value

MOST_ROUNDS = 256


def wire_word(tables, wire):
    """The value of the table of the wire. Raises UnknownWire."""
    if wire not in tables:
        raise UnknownWire(wire)
    return tables[wire]


def failing_run(net, wire):
    """The least failing stimulus, or None."""
    space, tables = small_space(net)
    return least_failing(space, wire_word(tables, wire))


def never(net, wire):
    """True if the wire never fails, otherwise False."""
    return failing_run(net, wire) is None


def is_failing(net, wire, stimulus):
    """True if the stimulus is failing for the wire, otherwise False."""
    played = run(net, stimulus)
    values = played[wire]
    return values[-1:] == (1,)


def quiet_states(space, word):
    """A list that tells for each state if the table shows 0 there at each row."""
    return [space.rows_with(word, state) == 0 for state in range(space.state_count)]


def lasting_states(space, word):
    """A list that tells for each state if it is safe.

    States from which one that is not safe follows are left out until none is left.
    """
    safe = quiet_states(space, word)
    kept = []
    while kept != safe:
        kept = safe
        safe = [kept[state] and all([kept[after] for after in space.next_states(state)])
                for state in range(space.state_count)]
    return safe


def safe_states(net, wire):
    """All safe states, ascending."""
    space, tables = small_space(net)
    safe = lasting_states(space, wire_word(tables, wire))
    return tuple([space.state_row(state) for state, is_safe in enumerate(safe) if is_safe])


def layer_places(space, layers):
    """A dict from each state in the layers to the first layer in which it stands."""
    places = {}
    for place, layer in enumerate(layers):
        for state in layer:
            places.setdefault(row_number(state), place)
    return places


def leads_on(space, places, layers):
    """True if each state of each layer leads to that layer, an earlier one or the next one.

    The last layer has no next one, so there this means some layer.
    """
    for place, layer in enumerate(layers):
        for number in sorted(set([row_number(state) for state in layer])):
            for after in space.next_states(number):
                if after not in places or places[after] > place + 1:
                    return False
    return True


def is_layers(net, wire, layers):
    """True if these are layers for the wire, otherwise False."""
    space, tables = small_space(net)
    for layer in layers:
        check_rows(layer, space.reg_count)
    quiet = quiet_states(space, wire_word(tables, wire))
    places = layer_places(space, layers)
    if places.get(space.start) != 0 or not all([quiet[state] for state in places]):
        return False
    return leads_on(space, places, layers)


def is_invariant(net, wire, states):
    """True if the states are an invariant for the wire, otherwise False.

    An invariant is one layer that leads nowhere else.
    """
    return is_layers(net, wire, (states,))


def find_layers(net, wire):
    """Layers for the wire, or None: the levels of the net, if the wire never fails."""
    space, tables = small_space(net)
    if least_failing(space, wire_word(tables, wire)) is not None:
        return None
    return tuple([tuple([space.state_row(state) for state in level])
                  for level in level_states(space)])


def late_states(space, word, count):
    """A list that tells for each state if some run from it shows 0 at `count` ticks, then 1."""
    late = [not is_quiet for is_quiet in quiet_states(space, word)]
    for _ in range(count):
        late = states_before(space, word, late)
    return late


def states_before(space, word, late):
    """A list that tells for each state if it shows 0 at a row that leads to a late state."""
    found = []
    for state in range(space.state_count):
        rows = space.rows_with(word, state)
        leads = [late[after] and (rows >> row) & 1 == 0
                 for row, after in enumerate(space.next_states(state))]
        found.append(any(leads))
    return found


def rounds(net, wire):
    """The least number of ticks with which the wire is inductive, or None."""
    space, tables = small_space(net)
    word = wire_word(tables, wire)
    if least_failing(space, word) is not None:
        return None
    late = late_states(space, word, 0)
    for count in range(MOST_ROUNDS + 1):
        if not any(late):
            return count
        late = states_before(space, word, late)
    return None


def is_inductive(net, wire, count):
    """True if the wire is inductive with `count` ticks, otherwise False."""
    space, tables = small_space(net)
    if not 0 <= count <= MOST_ROUNDS:
        raise BadIndex(count)
    word = wire_word(tables, wire)
    failing = least_failing(space, word)
    if failing is not None and len(failing) <= count:
        return False
    return not any(late_states(space, word, count))


def check_same_shape(first, second):
    """Raises Mismatch if the runs of the two nets cannot be compared."""
    if first[0] != second[0]:
        raise Mismatch("inputs")
    if len(first[3]) != len(second[3]):
        raise Mismatch("outputs")


def run_difference(first, second):
    """The least stimulus on which the nets differ, or None."""
    left = Circuit(first)
    right = Circuit(second)
    check_same_shape(first, second)
    input_count = len(first[0])
    split = joint_count(first)
    count = split + len(second[2])
    if count > MOST_JOINT:
        raise TooLarge("small", MOST_JOINT)
    joint = [input_word(index, count) for index in range(count)]
    full = full_value(1 << count)
    one = left.spread(joint[:input_count], joint[input_count:split], full)
    other = right.spread(joint[:input_count], joint[split:], full)
    space = Space(input_count, left.first_state + right.first_state,
                  left.next_values(one) + right.next_values(other))
    differing = 0
    for shown, due in zip(left.output_values(one), right.output_values(other)):
        differing = differing | (shown ^ due)
    return least_failing(space, differing)


def is_run_difference(first, second, stimulus):
    """True if the nets differ on the stimulus, otherwise False."""
    check_sound(first)
    check_sound(second)
    check_stimulus(stimulus, len(first[0]))
    check_same_shape(first, second)
    return run(first, stimulus).rows[-1:] != run(second, stimulus).rows[-1:]

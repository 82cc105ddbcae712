"""States that runs from the first state reach (point 57)."""

from wirewatch.rows import check_row, row_number
from wirewatch.runs import run
from wirewatch.spaces import least_path, small_space


def level_states(space):
    """A list of the levels, each a list of the numbers of its states."""
    seen = {space.start: True}
    found = [[space.start]]
    while found[-1]:
        after = []
        for state in found[-1]:
            for other in space.next_states(state):
                if other not in seen:
                    seen[other] = True
                    after.append(other)
        found.append(sorted(after))
    return found[:-1]


def levels(net):
    """The levels of a small net."""
    space, _ = small_space(net)
    return tuple([tuple([space.state_row(state) for state in level])
                  for level in level_states(space)])


def reached(net):
    """All reached states of a small net, ascending."""
    space, _ = small_space(net)
    states, _ = space.walked()
    return tuple([space.state_row(state) for state in sorted(states)])


def path_to(net, state):
    """The least path to the state in a small net, or None."""
    space, _ = small_space(net)
    check_row(state, space.reg_count)
    return least_path(space, row_number(state))


def is_path(net, stimulus, state):
    """True if the stimulus is a path to the state, otherwise False."""
    played = run(net, stimulus)
    check_row(state, len(net[2]))
    return played.last_state == state

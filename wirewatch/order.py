"""Orders, rings and depths of nets (points 15 and 23 to 25)."""

from wirewatch.errors import BadNet
from wirewatch.nets import check_net, declared_wires


def gate_links(net):
    """A dict from each gate to a list of those of its arguments that are gates."""
    _, gates, _, _ = net
    known = {gate[0]: True for gate in gates}
    return {wire: [arg for arg in args if arg in known] for wire, _, args in gates}


def turned_links(links):
    """The links in the other direction."""
    turned = {wire: [] for wire in links}
    for wire in links:
        for other in links[wire]:
            turned[other].append(wire)
    return turned


def finish_order(links):
    """The wires as a depth first walk over the links leaves them.

    Without a ring each wire stands behind all that it leads to. The walk has a
    stack of its own, so that long chains of gates need no deep calls.
    """
    left = []
    seen = {}
    for start in links:
        stack = [(start, False)]
        while stack:
            wire, is_done = stack.pop()
            if is_done:
                left.append(wire)
            elif wire not in seen:
                seen[wire] = True
                stack.append((wire, True))
                stack.extend([(other, False) for other in links[wire]])
    return left


def linked_groups(links):
    """Lists of wires. Two wires stand in one list if each of them leads to the other.

    The wire that is left last leads to all that lead to it, so a walk back from
    it finds its group, and so on with the wires that are not yet in a group.
    """
    turned = turned_links(links)
    seen = {}
    groups = []
    for start in finish_order(links)[::-1]:
        group = []
        stack = [start]
        while stack:
            wire = stack.pop()
            if wire not in seen:
                seen[wire] = True
                group.append(wire)
                stack.extend(turned[wire])
        groups.append(group)
    return groups


def first_ring_gate(net):
    """The first gate, in the order of the net, that stands in a ring, or None."""
    links = gate_links(net)
    in_ring = {}
    for group in linked_groups(links):
        for wire in group:
            in_ring[wire] = len(group) > 1 or wire in links[wire]
    for wire in links:
        if in_ring[wire]:
            return wire
    return None


def check_sound(net):
    """Raises BadNet for a fault of the net, otherwise for a ring."""
    check_net(net)
    wire = first_ring_gate(net)
    if wire is not None:
        raise BadNet("ring", wire)


def find_order(net):
    """An order of the net."""
    check_sound(net)
    return tuple(finish_order(gate_links(net)))


def is_order(net, order):
    """True if the tuple of texts is an order of the net, otherwise False."""
    check_net(net)
    links = gate_links(net)
    if sorted(order) != sorted(links):
        return False
    places = {wire: place for place, wire in enumerate(order)}
    for wire in links:
        if not all([places[other] < places[wire] for other in links[wire]]):
            return False
    return True


def find_ring(net):
    """A ring of the net, or None."""
    check_net(net)
    start = first_ring_gate(net)
    if start is None:
        return None
    links = gate_links(net)
    user_of = {}
    wire = start
    stack = []
    while start not in links[wire]:
        for other in links[wire]:
            if other not in user_of:
                user_of[other] = wire
                stack.append(other)
        wire = stack.pop()
    ring = [wire]
    while wire != start:
        wire = user_of[wire]
        ring.append(wire)
    return tuple(ring[::-1])


def is_ring(net, ring):
    """True if the tuple of texts is a ring of the net, otherwise False."""
    check_net(net)
    links = gate_links(net)
    if not ring or len(set(ring)) < len(ring):
        return False
    for wire, user in zip(ring, ring[-1:] + ring[:-1]):
        if user not in links or wire not in links[user]:
            return False
    return True


def depths(net):
    """A dict from each declared wire to its depth."""
    order = find_order(net)
    _, gates, _, _ = net
    args = {gate[0]: gate[2] for gate in gates}
    found = {wire: 0 for wire in declared_wires(net)}
    for wire in order:
        found[wire] = 1 + max([found[arg] for arg in args[wire]], default=0)
    return found

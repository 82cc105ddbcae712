"""Chains of steps, and rewriting (point 34)."""

from wirewatch.errors import BadIndex, BadStep
from wirewatch.order import check_sound
from wirewatch.steps import first_step, net_after

MOST_STEPS = 1000


def apply_chain(net, chain):
    """The net after the chain."""
    return trail(net, chain)[-1]


def trail(net, chain):
    """The net, then the net after each step of the chain."""
    check_sound(net)
    nets = [net]
    for rule, wire in chain:
        after = net_after(nets[-1], (rule, wire))
        if after is None:
            raise BadStep(rule, wire)
        nets.append(after)
    return tuple(nets)


def is_chain(net, chain, result):
    """True if the chain applies to the net and leads to `result`, otherwise False."""
    check_sound(net)
    for step in chain:
        net = net_after(net, step)
        if net is None:
            return False
    return net == result


def is_settled(net):
    """True if no step applies to the net, otherwise False."""
    check_sound(net)
    return first_step(net) is None


def rewrite(net, *, limit=400):
    """A pair: the net after the first step, again and again, and the chain of these steps."""
    check_sound(net)
    if not 0 <= limit <= MOST_STEPS:
        raise BadIndex(limit)
    chain = []
    while len(chain) < limit:
        step = first_step(net)
        if step is None:
            break
        net = net_after(net, step)
        chain.append(step)
    return net, tuple(chain)

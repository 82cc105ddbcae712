"""Points 69 to 73 in plain words."""

import itertools

from samples import plain_run, wires_of


def plain_token(row):
    return "".join(map(str, row)) or "-"


def plain_stimulus_text(inputs, stimulus):
    lines = [" ".join(["in", *inputs])]
    for row, group in itertools.groupby(stimulus):
        left = len(list(group))
        while left >= 99:
            lines.append(plain_token(row) + " * 99")
            left -= 99
        if left:
            lines.append(plain_token(row) + (f" * {left}" if left > 1 else ""))
    return "".join(line + "\n" for line in lines)


def plain_reductions(stimulus):
    found = [stimulus[:at] + stimulus[at + 1:] for at in range(len(stimulus))]
    for at, row in enumerate(stimulus):
        for place in range(len(row)):
            if row[place]:
                changed = tuple(0 if other == place else bit for other, bit in enumerate(row))
                found.append(stimulus[:at] + (changed,) + stimulus[at + 1:])
    return tuple(found)


def all_below(stimulus):
    """All stimuli that are below this one, by reductions of reductions."""
    seen, left = {stimulus}, [stimulus]
    while left:
        for other in plain_reductions(left.pop()):
            if other not in seen:
                seen.add(other)
                left.append(other)
    return seen


def plain_fails(net, wire, stimulus):
    return bool(stimulus) and plain_run(net, stimulus)[0][-1][wire] == 1


def plain_smallest(net, wire, stimulus):
    return plain_fails(net, wire, stimulus) and not any(
        plain_fails(net, wire, other) for other in plain_reductions(stimulus))


def plain_coverage(net, stimuli):
    """The seen and the missing pairs, and the visited states."""
    seen, states = set(), set()
    for stimulus in stimuli:
        ticks, passed = plain_run(net, stimulus)
        states |= set(passed)
        seen |= {pair for values in ticks for pair in values.items()}
    pairs = [(wire, bit) for wire in wires_of(net) for bit in (0, 1)]
    return (tuple(pair for pair in pairs if pair in seen), tuple(pair for pair in pairs if pair not in seen),
            tuple(sorted(states, key=lambda state: state[::-1])))

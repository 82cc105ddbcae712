"""Walks over what follows what, shortest ways first (points 49, 51, 52 and 57)."""

from wirewatch.errors import TooLarge


def check_most(count, limit):
    """Raises TooLarge if the count is over the limit, a pair `(what, most)` or None."""
    if limit is not None:
        what, most = limit
        if count > most:
            raise TooLarge(what, most)


def explore(first, count, follow, limit=None):
    """A list of all keys that are reached from the first one, and their moves.

    `follow(key, letter)` is the key that follows for one of `count` letters. The
    keys stand in the order of the least letter rows that lead to them. Item
    `letter` of the moves of a key is the place of the key that follows.
    """
    places = {first: 0}
    keys = [first]
    moves = []
    while len(moves) < len(keys):
        row = []
        for letter in range(count):
            after = follow(keys[len(moves)], letter)
            if after not in places:
                places[after] = len(keys)
                keys.append(after)
                check_most(len(keys), limit)
            row.append(places[after])
        moves.append(tuple(row))
    return keys, tuple(moves)


def way_to(moves, goal):
    """The least letter row that leads from 0 to the place `goal` of moves of `explore`."""
    ways = {}
    for place, row in enumerate(moves):
        for letter, after in enumerate(row):
            if after not in ways:
                ways[after] = (place, letter)
    letters = []
    while goal != 0:
        goal, letter = ways[goal]
        letters.append(letter)
    return tuple(letters[::-1])

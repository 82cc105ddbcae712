"""Texts of patterns at the limits of point 52, and the options of flags."""

from wirewatch.pattern_text import parse_pattern

OPTIONS = [(from_start, sticky) for from_start in (False, True) for sticky in (False, True)]

# Pattern texts at the limits of the pairs. Each tells how large the least machine is.
THEN_200 = "[]{9,} : [!b !a] ; [!a]{0,6} : [b !a]"  # 16 states
THEN_201 = "[!b] : ([a !b] | []{2,7}) ; ~([b] : []*)@6@8"  # 11 states
THEN_201_WIDE = "~~([!b]{9,} ; [!b a]) ; (~empty)@5"  # 23 states
FUSE_200 = "~(~never{9})@6 : ([a !b]* ; (~[!a])@9@6)"  # 9 states
FUSE_201 = "~~([!b]{9,} ; [!b a]) : (~[!a])@6@7"  # 22 states

# Sets of the repeat of this pattern: 200 with 16 and with 10 states, 201 with 1 and with 23.
REPEAT_200 = "~~(~[]{0,6} : [!a]{1}{9}*)"
REPEAT_200_SMALL = "[!b a] ; [!b !a]* ; (~[a b])@6"
REPEAT_201 = "~([!a] : [b]{1,7} ; [b !a])"
REPEAT_201_WIDE = "~([]{0,9} ; ([!a !b] | ([] | []) ; []))"

# Rows of 0, 8, 16 .. ticks, and those with an even number of ticks at which a is 1.
EIGHTS = "[]{8}*"
EVEN = "([!a]* ; [a]){2}* ; [!a]*"
# 16 states each. Both come back to their starts, of which only the first is marked.
FROM_MARKED = f"{EIGHTS} & ({EVEN})"
FROM_UNMARKED = f"{EIGHTS} & ~({EVEN})"


def pattern(text):
    return parse_pattern(text)

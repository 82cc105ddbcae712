"""Texts of patterns, written and read (points 46 to 48)."""

from wirewatch.errors import BadText
from wirewatch.nets import DIGITS, LETTERS, is_wire
from wirewatch.patterns import check_pattern

MARKS = {"or": "|", "both": "&", "then": ";", "fuse": ":"}
KINDS = {"|": "or", "&": "both", ";": "then", ":": "fuse"}

# The number of a kind is that of its line in point 46: a greater one binds tighter.
NUMBERS = {"or": 1, "both": 2, "then": 3, "fuse": 4, "not": 5, "times": 6, "within": 6,
           "see": 7, "empty": 7, "never": 7}


def lits_text(lits):
    """The text of a `see` node."""
    return "[" + " ".join([wire if bit == 1 else f"!{wire}" for wire, bit in lits]) + "]"


def counts_text(low, high):
    """What stands behind the part of a `times` node."""
    if high is None:
        return "*" if low == 0 else "{" + str(low) + ",}"
    return "{" + (str(low) if high == low else f"{low},{high}") + "}"


def part_text(part, number):
    """The text of a part, in parentheses if the number of its line is less than this one."""
    text = node_text(part)
    return f"({text})" if NUMBERS[part[0]] < number else text


def node_text(node):
    """The text of a node. A pattern is not deeper than its 16 nodes."""
    kind = node[0]
    if kind == "see":
        return lits_text(node[1])
    if kind in ("empty", "never"):
        return kind
    number = NUMBERS[kind]
    first = part_text(node[1], number)
    if kind == "not":
        return f"~{first}"
    if kind == "times":
        return f"{first}{counts_text(node[2], node[3])}"
    if kind == "within":
        return f"{first}@{node[2]}"
    return f"{first} {MARKS[kind]} {part_text(node[2], number + 1)}"


def pattern_text(pattern):
    """The text of the pattern."""
    check_pattern(pattern)
    return node_text(pattern)


def is_term_sign(sign):
    """True if the character can stand in a term, otherwise False."""
    return sign in LETTERS or sign in DIGITS or sign == "."


def is_count(token):
    """True if the token is a count, otherwise False."""
    return len(token) == 1 and token in DIGITS


class Scanner:
    """The tokens of a text, one after another. A wrong one is met only in its turn."""

    def __init__(self, text):
        self.text = text
        self.start = 0
        self.token = ""
        self.move()

    def move(self):
        """Goes on to the next token: a term, another character, or nothing at the end."""
        start = self.start + len(self.token)
        while self.text[start:start + 1] == " ":
            start += 1
        end = start
        while end < len(self.text) and is_term_sign(self.text[end]):
            end += 1
        self.start = start
        self.token = self.text[start:max(end, start + 1)]

    def fail(self):
        """Raises what is wrong with a token that cannot stand here, or with the end."""
        raise BadText(1, self.start + 1, "missing" if self.token == "" else "token")

    def take(self, fits):
        """The token, for which the function `fits` must give True."""
        token = self.token
        if not fits(token):
            self.fail()
        self.move()
        return token

    def take_word(self, words):
        """The token, which must be one of these words."""
        return self.take(lambda token: token in words)


def read_lits(scanner):
    """The pairs of a `see` node whose bracket has been read."""
    found = []
    seen = set()
    while scanner.token != "]":
        bit = 1
        if scanner.token == "!":
            bit = 0
            scanner.move()
        column = scanner.start + 1
        wire = scanner.take(is_wire)
        if wire in seen:
            raise BadText(1, column, "twice")
        seen.add(wire)
        found.append((wire, bit))
    scanner.move()
    return tuple(found)


def read_counts(scanner):
    """The counts of a `times` node whose brace has been read."""
    low = int(scanner.take(is_count))
    if scanner.take_word((",", "}")) == "}":
        return low, low
    high = None
    if scanner.token != "}":
        column = scanner.start + 1
        high = int(scanner.take(is_count))
        if high < low:
            raise BadText(1, column, "count")
    scanner.take_word(("}",))
    return low, high


class TreeReader:
    """A text of a pattern that is read without deep calls.

    `made` has the nodes that are read and not yet parts of others. `pending` has
    the kinds that wait for their last part, and the parentheses that are open.
    """

    def __init__(self, text):
        self.scanner = Scanner(text)
        self.made = []
        self.pending = []

    def read_start(self):
        """Reads what stands before a part, and a part that has no parts of its own."""
        scanner = self.scanner
        while scanner.token in ("(", "~"):
            self.pending.append("(" if scanner.token == "(" else "not")
            scanner.move()
        word = scanner.take_word(("[", "empty", "never"))
        self.made.append(("see", read_lits(scanner)) if word == "[" else (word,))

    def read_close(self):
        """Reads a closing parenthesis."""
        if "(" not in self.pending:
            self.scanner.fail()
        self.make_nodes(0)
        self.pending.pop()

    def read_behind(self):
        """Reads what stands behind a part, before an operator of two parts or the end."""
        scanner = self.scanner
        while scanner.token in ("*", "{", "@", ")"):
            if scanner.token == ")":
                self.read_close()
            word = scanner.token
            scanner.move()
            if word == "*":
                self.made.append(("times", self.made.pop(), 0, None))
            if word == "{":
                low, high = read_counts(scanner)
                self.made.append(("times", self.made.pop(), low, high))
            if word == "@":
                most = int(scanner.take(is_count))
                self.made.append(("within", self.made.pop(), most))

    def make_nodes(self, number):
        """Makes the nodes that bind at least as tight as this number, back to a parenthesis."""
        while self.pending and self.pending[-1] != "(" and NUMBERS[self.pending[-1]] >= number:
            kind = self.pending.pop()
            last = self.made.pop()
            if kind == "not":
                self.made.append((kind, last))
            else:
                self.made.append((kind, self.made.pop(), last))

    def read(self):
        """The pattern, after the whole text has been read."""
        scanner = self.scanner
        self.read_start()
        self.read_behind()
        while scanner.token in KINDS:
            kind = KINDS[scanner.token]
            self.make_nodes(NUMBERS[kind])
            self.pending.append(kind)
            scanner.move()
            self.read_start()
            self.read_behind()
        if scanner.token != "" or "(" in self.pending:
            scanner.fail()
        self.make_nodes(0)
        return self.made[0]


def parse_pattern(text):
    """The pattern that the text describes."""
    pattern = TreeReader(text).read()
    check_pattern(pattern)
    return pattern

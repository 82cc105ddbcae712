"""Lines and tokens of a text that is read (points 20 and 21)."""

from wirewatch.errors import BadText


def split_lines(text):
    """The lines of the text. A newline at the very end begins no other line."""
    lines = text.split("\n")
    return lines[:-1] if lines[-1] == "" else lines


def split_tokens(text):
    """The pairs (column, token) of one line, none for a line that is skipped."""
    tokens = []
    column = 1
    for part in text.split(" "):
        if part != "":
            tokens.append((column, part))
        column += len(part) + 1
    if tokens and tokens[0][1].startswith("#"):
        return []
    return tokens


class Line:
    """One line of a text, read token by token."""

    def __init__(self, number, text):
        self.number = number
        self.tokens = split_tokens(text)
        self.past_end = len(text) + 1
        self.place = 0

    def has_token(self):
        """True if a token is left, otherwise False."""
        return self.place < len(self.tokens)

    def take(self, fits):
        """The next token, for which the function `fits` must give True."""
        if not self.has_token():
            raise BadText(self.number, self.past_end, "missing")
        column, token = self.tokens[self.place]
        if not fits(token):
            raise BadText(self.number, column, "token")
        self.place += 1
        return token

    def take_word(self, words):
        """The next token, which must be one of these words."""
        return self.take(lambda token: token in words)

    def take_many(self, count, fits):
        """A tuple of the next `count` tokens."""
        found = []
        for _ in range(count):
            found.append(self.take(fits))
        return tuple(found)

    def take_rest(self, fits):
        """A tuple of all tokens that are left."""
        return self.take_many(len(self.tokens) - self.place, fits)

    def finish(self):
        """Raises BadText if a token is left."""
        if self.has_token():
            column, _ = self.tokens[self.place]
            raise BadText(self.number, column, "extra")


class Source:
    """The lines of a text that are not skipped, read one after another."""

    def __init__(self, text):
        texts = split_lines(text)
        lines = [Line(number, line) for number, line in enumerate(texts, start=1)]
        self.lines = [line for line in lines if line.has_token()]
        self.past_end = len(texts) + 1
        self.place = 0

    def has_line(self):
        """True if a line is left, otherwise False."""
        return self.place < len(self.lines)

    def next_line(self):
        """The next line, which must be there."""
        if not self.has_line():
            raise BadText(self.past_end, 1, "end")
        line = self.lines[self.place]
        self.place += 1
        return line

    def finish(self):
        """Raises BadText if a line is left."""
        if self.has_line():
            self.next_line().finish()

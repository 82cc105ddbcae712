"""Words: fixed numbers of bits (points 7 to 9)."""

from wirewatch.errors import BadIndex, BadRow, BadText, BadWidth, BadWord

MOST_BITS = 256


def bits_number(row):
    """The row number of the row. Raises BadRow(row)."""
    if len(row) > MOST_BITS or not all([bit in (0, 1) for bit in row]):
        raise BadRow(row)
    return sum([bit << at for at, bit in enumerate(row)])


def full_value(width):
    """The value of the word of this width that has all bits 1."""
    return (1 << width) - 1


def bits_text(bits):
    """The digits of the bits, with the greatest index first."""
    return "".join([str(bit) for bit in bits[::-1]])


def check_widths(left, right):
    """Raises BadWidth if the two words have different widths."""
    if left.width != right.width:
        raise BadWidth(left.width, right.width)


class Word:
    """A word. It never changes, so its bits are worked out once and kept."""

    def __init__(self, width, value):
        # The width is checked first: a shift by a number of 100 digits cannot be made.
        if not 0 <= width <= MOST_BITS or not 0 <= value <= full_value(width):
            raise BadWord(width, value)
        self.width = width
        self.value = value
        self.bits = tuple([value >> at & 1 for at in range(width)])

    @classmethod
    def from_row(cls, row):
        """The word whose bits are the items of the row."""
        return cls(len(row), bits_number(row))

    @property
    def ones(self):
        """The number of bits that are 1."""
        return sum(self.bits)

    def __and__(self, other):
        check_widths(self, other)
        return Word(self.width, self.value & other.value)

    def __or__(self, other):
        check_widths(self, other)
        return Word(self.width, self.value | other.value)

    def __xor__(self, other):
        check_widths(self, other)
        return Word(self.width, self.value ^ other.value)

    def __add__(self, other):
        check_widths(self, other)
        return Word(self.width, (self.value + other.value) & full_value(self.width))

    def __sub__(self, other):
        check_widths(self, other)
        return Word(self.width, (self.value - other.value) & full_value(self.width))

    def __invert__(self):
        return Word(self.width, self.value ^ full_value(self.width))

    def __lshift__(self, other):
        if other < 0:
            raise BadIndex(other)
        return Word(self.width, (self.value << other) & full_value(self.width))

    def __rshift__(self, other):
        if other < 0:
            raise BadIndex(other)
        return Word(self.width, self.value >> other)

    def __eq__(self, other):
        return isinstance(other, Word) and self.width == other.width and self.value == other.value

    def __ne__(self, other):
        return not self == other

    def __len__(self):
        return len(self.bits)

    def __getitem__(self, at):
        if not 0 <= at < self.width:
            raise BadIndex(at)
        return self.bits[at]

    def __iter__(self):
        return iter(self.bits)

    def __str__(self):
        return f"b{bits_text(self.bits)}"

    def piece(self, start, count):
        """The word of `count` bits from bit `start` on."""
        if not 0 <= start <= self.width:
            raise BadIndex(start)
        if not 0 <= count <= self.width - start:
            raise BadIndex(count)
        return Word(count, (self.value >> start) & full_value(count))

    def above(self, low):
        """The word with the bits of `low`, followed by the bits of this word."""
        return Word(self.width + low.width, (self.value << low.width) | low.value)

    def with_bit(self, index, bit):
        """The word that equals this one except that bit `index` is `bit`."""
        if not 0 <= index < self.width:
            raise BadIndex(index)
        return Word(self.width, self.value ^ ((self.bits[index] ^ bit) << index))


def parse_word(text):
    """The word that has this text."""
    if text == "":
        raise BadText(1, 1, "missing")
    if text[0] != "b":
        raise BadText(1, 1, "token")
    for column, sign in enumerate(text[1:MOST_BITS + 1], start=2):
        if sign not in ("0", "1"):
            raise BadText(1, column, "token")
    if len(text) > MOST_BITS + 1:
        raise BadText(1, MOST_BITS + 2, "extra")
    return Word.from_row(tuple([int(sign) for sign in text[:0:-1]]))

"""Rows of bits, and tables over rows (points 7 and 10)."""

from wirewatch.errors import BadIndex, BadRow, BadTable, TooLarge
from wirewatch.words import Word, bits_number, full_value

MOST_INPUTS = 8
TABLE_INPUTS = {1: 0, 2: 1, 4: 2, 8: 3, 16: 4, 32: 5, 64: 6, 128: 7, 256: 8}


def check_row(row, count):
    """Raises BadRow if the row does not have `count` bits. It may be longer than a word."""
    if len(row) != count or not all([bit in (0, 1) for bit in row]):
        raise BadRow(row)


def check_rows(rows, count):
    """Raises BadRow for the first of the rows that does not have `count` bits."""
    for row in rows:
        check_row(row, count)


def input_word(index, count):
    """The value of the table of `count` inputs that shows input `index`.

    Its bits stand in turn in `block` zeros and `block` ones. The quotient has
    the ones in the places of the zeros: times `2 ** block + 1` it is full.
    """
    block = 1 << index
    return full_value(1 << count) // ((1 << block) + 1) << block


def lowest_one(value):
    """The index of the lowest bit 1 of a positive integer."""
    return (value & -value).bit_length() - 1


def row_number(row):
    """The row number of the row."""
    return bits_number(row)


def number_row(number, count):
    """The row of `count` bits with this row number."""
    return Word(count, number).bits


def all_rows(count):
    """All rows of `count` bits, ascending."""
    if count < 0:
        raise BadIndex(count)
    if count > MOST_INPUTS:
        raise TooLarge("row", MOST_INPUTS)
    return tuple([number_row(number, count) for number in range(1 << count)])


def table_inputs(table):
    """The number of inputs of the table."""
    if table.width not in TABLE_INPUTS:
        raise BadTable(table.width)
    return TABLE_INPUTS[table.width]


def lookup(table, row):
    """The bit of the table that belongs to the row."""
    if len(row) != table_inputs(table):
        raise BadRow(row)
    return table[row_number(row)]


def cofactor(table, index, bit):
    """The table that is left if input `index` has the value `bit`."""
    count = table_inputs(table)
    if not 0 <= index < count:
        raise BadIndex(index)
    rows = [row[:index] + (bit,) + row[index:] for row in all_rows(count - 1)]
    return Word.from_row(tuple([lookup(table, row) for row in rows]))


def depends(table, index):
    """True if the two cofactors at `index` differ, otherwise False."""
    return cofactor(table, index, 0) != cofactor(table, index, 1)


def arrange(table, places):
    """The table whose input `j` is input `places[j]` of the given table."""
    count = table_inputs(table)
    if sorted(places) != list(range(count)):
        raise BadRow(places)
    bits = [0 for _ in range(table.width)]
    for row in all_rows(count):
        arranged = tuple([row[place] for place in places])
        bits[row_number(arranged)] = lookup(table, row)
    return Word.from_row(tuple(bits))

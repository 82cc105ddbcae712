"""rows.py: rows and tables (points 7 and 10)."""

import itertools
import unittest

from checks import CheckCase
from wirewatch.errors import BadIndex, BadRow, BadTable, BadWord, TooLarge
from wirewatch.rows import (all_rows, arrange, cofactor, depends, lookup, number_row, row_number,
                            table_inputs)
from wirewatch.words import Word

HUGE = 10 ** 99
NO_TABLES = [Word(width, 0) for width in range(257) if width not in
             (1, 2, 4, 8, 16, 32, 64, 128, 256)]


def some_table(count, seed=1):
    """A table with a mixed pattern of bits."""
    value = 0
    for at in range(2 ** count):
        value = value * 2 + (at * at + at // 3 + seed * 7 // (at + 1)) % 2
    return Word(2 ** count, value)


def some_tables():
    tables = [some_table(count, seed) for count in range(9) for seed in (1, 2, 3)]
    ends = [Word(2 ** count, value) for count in range(9) for value in (0, 2 ** 2 ** count - 1)]
    return tables + ends


def rows_of(count):
    """All rows of `count` bits, ascending, made in another way."""
    return [row[::-1] for row in itertools.product((0, 1), repeat=count)]


class RowsTest(CheckCase):
    def test_row_number(self):
        self.same(row_number(()), 0)
        self.same(row_number((1,)), 1)
        self.same(row_number((0, 1, 1, 0)), 6)
        self.same(row_number((0,) * 255 + (1,)), 2 ** 255)
        self.same(row_number((1,) * 256), 2 ** 256 - 1)

    def test_row_number_of_wrong_rows(self):
        rows = ((0,) * 257, (1,) * 400, (2,), (1, -1), (0, 0, 2), (0,) * 255 + (3,),
                (HUGE,), (5,) * 300)
        for row in rows:
            self.fails(BadRow(row), row_number, row)

    def test_number_row(self):
        self.same(number_row(6, 4), (0, 1, 1, 0))
        self.same(number_row(0, 0), ())
        self.same(number_row(0, 2), (0, 0))
        self.same(number_row(1, 2), (1, 0))
        self.same(number_row(2 ** 256 - 1, 256), (1,) * 256)
        self.same(number_row(2 ** 255, 256), (0,) * 255 + (1,))
        self.same(number_row(0, 256), (0,) * 256)

    def test_number_row_outside(self):
        for number, count in ((1, 0), (-1, 0), (2, 1), (16, 4), (-1, 4), (0, -1), (0, 257),
                              (2 ** 256, 256), (0, HUGE), (HUGE, 3), (HUGE, HUGE), (-1, -1)):
            self.fails(BadWord(count, number), number_row, number, count)

    def test_all_rows(self):
        self.same(all_rows(0), ((),))
        self.same(all_rows(1), ((0,), (1,)))
        self.same(all_rows(2), ((0, 0), (1, 0), (0, 1), (1, 1)))
        for count in range(9):
            self.same(all_rows(count), tuple(rows_of(count)))

    def test_all_rows_outside(self):
        for count in (-1, -8, -HUGE):
            self.fails(BadIndex(count), all_rows, count)
        for count in (9, 10, HUGE):
            self.fails(TooLarge("row", 8), all_rows, count)


class TablesTest(CheckCase):
    def test_inputs(self):
        for count in range(9):
            self.same(table_inputs(some_table(count)), count)

    def test_lookup(self):
        for table in some_tables():
            for number, row in enumerate(rows_of(table_inputs(table))):
                self.same(lookup(table, row), table.value // 2 ** number % 2)

    def test_lookup_with_a_wrong_row(self):
        for count in range(9):
            table = some_table(count)
            rows = [(0,) * (count + 1), (1,) * (count + 2), (0,) * count + (2,), (0,) * 300]
            if count:
                rows += [(0,) * (count - 1), (2,) + (0,) * (count - 1), (0,) * (count - 1) + (-1,)]
            for row in rows:
                self.fails(BadRow(row), lookup, table, row)

    def test_cofactor(self):
        self.same(str(cofactor(Word(4, 6), 0, 1)), "b01")
        for table in some_tables():
            count = table_inputs(table)
            for index in range(count):
                for bit in (0, 1):
                    left = [lookup(table, row) for row in rows_of(count) if row[index] == bit]
                    self.same(cofactor(table, index, bit), Word.from_row(tuple(left)))

    def test_depends(self):
        for table in some_tables():
            count = table_inputs(table)
            for index in range(count):
                due = any(lookup(table, row) != lookup(table, row[:index] + (1,) + row[index + 1:])
                          for row in rows_of(count))
                self.same(depends(table, index), due)
        self.same(depends(Word(4, 12), 0), False)
        self.same(depends(Word(4, 12), 1), True)

    def test_wrong_index(self):
        for count in range(9):
            for index in (-1, -count - 1, count, count + 1, HUGE):
                self.fails(BadIndex(index), cofactor, some_table(count), index, 0)
                self.fails(BadIndex(index), cofactor, some_table(count), index, 1)
                self.fails(BadIndex(index), depends, some_table(count), index)

    def test_arrange(self):
        for count in range(5):
            table = some_table(count)
            for places in itertools.permutations(range(count)):
                result = arrange(table, places)
                self.assertEqual(result.width, table.width)
                for row in rows_of(count):
                    other = tuple(row[place] for place in places)
                    self.same(lookup(result, other), lookup(table, row))

    def test_arrange_of_many_inputs(self):
        table = some_table(8)
        places = (3, 0, 7, 1, 2, 6, 5, 4)
        result = arrange(table, places)
        for row in rows_of(8):
            other = tuple(row[place] for place in places)
            self.assertEqual(lookup(result, other), lookup(table, row))
        self.same(arrange(table, tuple(range(8))), table)
        # Input 0 of the result is input 1 of the table, which is the table of input 1.
        self.same(arrange(Word(8, 0b11001100), (1, 2, 0)), Word(8, 0b10101010))

    def test_arrange_with_wrong_places(self):
        table = some_table(3)
        for places in ((), (0, 1), (0, 1, 2, 3), (0, 1, 1), (0, 0, 0), (0, 1, 3), (-1, 0, 1),
                       (1, 2, 3), (0, 1, 2, 2), (0, 1, HUGE), (-3, -2, -1)):
            self.fails(BadRow(places), arrange, table, places)
        self.fails(BadRow((0,)), arrange, Word(1, 1), (0,))
        self.fails(BadRow(()), arrange, Word(2, 1), ())

    def test_no_table(self):
        for word in NO_TABLES:
            error = BadTable(word.width)
            self.fails(error, table_inputs, word)
            self.fails(error, lookup, word, (0,))
            self.fails(error, cofactor, word, 0, 0)
            self.fails(error, depends, word, 0)
            self.fails(error, arrange, word, (0, 1))

    def test_no_table_beside_a_second_wrong_argument(self):
        for word in (Word(0, 0), Word(3, 5), Word(255, 1)):
            error = BadTable(word.width)
            self.fails(error, lookup, word, (0, 2))
            self.fails(error, cofactor, word, -1, 0)
            self.fails(error, depends, word, 99)
            self.fails(error, arrange, word, (5, 5))

    def test_tables_do_not_change(self):
        table = Word(8, 0b10010110)
        cofactor(table, 1, 1)
        arrange(table, (2, 0, 1))
        lookup(table, (1, 1, 1))
        self.fails(BadIndex(3), depends, table, 3)
        self.same((table, list(table)), (Word(8, 0b10010110), [0, 1, 1, 0, 1, 0, 0, 1]))


if __name__ == "__main__":
    unittest.main()

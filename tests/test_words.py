"""words.py: words and their texts (points 7 to 9)."""

import unittest

from checks import CheckCase
from wirewatch.errors import BadIndex, BadRow, BadText, BadWidth, BadWord
from wirewatch.words import Word, parse_word

WIDTHS = (0, 1, 2, 3, 8, 255, 256)
HUGE = 10 ** 99


def bits_of(word):
    return [word.value // 2 ** at % 2 for at in range(word.width)]


def samples(width):
    """Some values of the width, the bounds among them."""
    top = 2 ** width - 1
    return sorted({value for value in (0, 1, 2, 5, top // 3, top - 1, top) if 0 <= value <= top})


def some_words():
    return [Word(width, value) for width in WIDTHS for value in samples(width)]


class MakingTest(CheckCase):
    def test_width_and_value(self):
        for width in WIDTHS:
            for value in samples(width):
                word = Word(width, value)
                self.same((word.width, word.value), (width, value))

    def test_wrong_widths(self):
        for width in (-1, -HUGE, 257, 258, 1000, HUGE):
            for value in (0, 1, -1, HUGE):
                self.fails(BadWord(width, value), Word, width, value)

    def test_wrong_values(self):
        for width in WIDTHS:
            for value in (-1, -HUGE, 2 ** width, 2 ** width + 1, HUGE):
                self.fails(BadWord(width, value), Word, width, value)

    def test_from_row(self):
        self.same(Word.from_row(()), Word(0, 0))
        self.same(Word.from_row((0, 1, 1)), Word(3, 6))
        self.same(Word.from_row((1, 0, 0)), Word(3, 1))
        self.same(Word.from_row((1,) * 256), Word(256, 2 ** 256 - 1))
        self.same(Word.from_row((0,) * 255 + (1,)), Word(256, 2 ** 255))

    def test_from_row_is_the_other_way_round_of_iteration(self):
        for word in some_words():
            self.same(Word.from_row(tuple(word)), word)

    def test_from_wrong_row(self):
        rows = ((0,) * 257, (1,) * 300, (2,), (0, -1), (0, 1, 10 ** 99), (0,) * 255 + (2,),
                (0,) * 300 + (3,))
        for row in rows:
            self.fails(BadRow(row), Word.from_row, row)

    def test_interface_of_the_class(self):
        self.assertIsInstance(vars(Word)["from_row"], classmethod)
        self.assertIsInstance(vars(Word)["ones"], property)
        for name in ("__and__", "__or__", "__xor__", "__add__", "__sub__", "__invert__",
                     "__lshift__", "__rshift__", "__eq__", "__ne__", "__len__", "__getitem__",
                     "__iter__", "__str__", "piece", "above", "with_bit"):
            self.assertIn(name, vars(Word))


class BitsTest(CheckCase):
    def test_bits_and_length(self):
        for word in some_words():
            self.same(list(word), bits_of(word))
            self.same(len(word), word.width)
            self.same([word[at] for at in range(word.width)], bits_of(word))
            self.same(word.ones, sum(bits_of(word)))

    def test_iterating_twice(self):
        word = Word(4, 6)
        self.assertEqual([(a, b) for a in word for b in word][:5],
                         [(0, 0), (0, 1), (0, 1), (0, 0), (1, 0)])

    def test_wrong_index(self):
        for width in WIDTHS:
            word = Word(width, 0)
            for index in (-1, -width - 1, width, width + 1, HUGE, -HUGE):
                self.fails(BadIndex(index), word.__getitem__, index)

    def test_with_bit(self):
        for word in some_words():
            for index in {0, 1, word.width // 2, word.width - 2, word.width - 1}:
                for bit in (0, 1):
                    if 0 <= index < word.width:
                        due = bits_of(word)
                        due[index] = bit
                        self.same(list(word.with_bit(index, bit)), due)

    def test_with_bit_at_a_wrong_index(self):
        for width in WIDTHS:
            for index in (-1, -width, width, width + 1, HUGE):
                if not 0 <= index < width:
                    self.fails(BadIndex(index), Word(width, 0).with_bit, index, 1)

    def test_text(self):
        self.same(str(Word(0, 0)), "b")
        self.same(str(Word(1, 0)), "b0")
        self.same(str(Word(1, 1)), "b1")
        self.same(str(Word(4, 6)), "b0110")
        self.same(str(Word(4, 1)), "b0001")
        self.same(str(Word(256, 1)), "b" + "0" * 255 + "1")
        self.same(str(Word(256, 2 ** 256 - 1)), "b" + "1" * 256)


class OperatorsTest(CheckCase):
    def pairs(self):
        return [(a, b) for a in some_words() for b in some_words()]

    def check_bitwise(self, sign, of_bits):
        for a, b in self.pairs():
            if a.width == b.width:
                due = [of_bits(x, y) for x, y in zip(bits_of(a), bits_of(b))]
                self.same(list(sign(a, b)), due)
            else:
                self.fails(BadWidth(a.width, b.width), sign, a, b)

    def test_and_or_xor(self):
        self.check_bitwise(lambda a, b: a & b, lambda x, y: int(x == 1 and y == 1))
        self.check_bitwise(lambda a, b: a | b, lambda x, y: int(x == 1 or y == 1))
        self.check_bitwise(lambda a, b: a ^ b, lambda x, y: int(x != y))

    def test_sum_and_difference(self):
        for a, b in self.pairs():
            if a.width == b.width:
                size = 2 ** a.width
                self.same(a + b, Word(a.width, (a.value + b.value) % size))
                self.same(a - b, Word(a.width, (a.value - b.value) % size))
            else:
                self.fails(BadWidth(a.width, b.width), lambda: a + b)
                self.fails(BadWidth(a.width, b.width), lambda: a - b)

    def test_examples_of_the_document(self):
        self.same(str(Word(4, 5).above(Word(2, 2))), "b010110")
        self.same(list(Word(4, 6) + Word(4, 11)), [1, 0, 0, 0])

    def test_invert(self):
        for word in some_words():
            self.same(list(~word), [1 - bit for bit in bits_of(word)])

    def test_shifts(self):
        for word in some_words():
            bits = bits_of(word)
            for count in {0, 1, 2, max(word.width - 1, 0), word.width, word.width + 1, 1000}:
                left = [bits[at - count] if at >= count else 0 for at in range(word.width)]
                right = [bits[at + count] if at + count < word.width else 0
                         for at in range(word.width)]
                self.same(list(word << count), left)
                self.same(list(word >> count), right)

    def test_shifts_by_a_negative_count(self):
        for word in (Word(0, 0), Word(4, 5), Word(256, 1)):
            for count in (-1, -4, -256, -HUGE):
                self.fails(BadIndex(count), lambda: word << count)
                self.fails(BadIndex(count), lambda: word >> count)

    def test_equality(self):
        for a, b in self.pairs():
            due = (a.width, a.value) == (b.width, b.value)
            self.same(a == b, due)
            self.same(a != b, not due)
            self.same(a == Word(a.width, a.value), True)
            self.same(a != Word(a.width, a.value), False)

    def test_equality_with_what_is_no_word(self):
        word = Word(2, 1)
        for other in (1, 2, "b01", (1, 0), [1, 0], None, (2, 1), {}, object()):
            self.same(word == other, False)
            self.same(other == word, False)
            self.same(word != other, True)
            self.same(other != word, True)

    def test_words_do_not_change(self):
        a, b = Word(4, 5), Word(4, 3)
        results = [a & b, a | b, a ^ b, a + b, a - b, ~a, a << 1, a >> 1, a.piece(1, 2),
                   a.above(b), a.with_bit(1, 1), a == b, a != b, a.ones, str(a), list(a)]
        for call in (lambda: a & Word(3, 0), lambda: a << -1, lambda: a[4], lambda: a.piece(5, 0),
                     lambda: a.above(Word(256, 0)), lambda: a.with_bit(4, 0)):
            with self.assertRaises(ValueError):
                call()
        self.assertEqual(len(results), 16)
        self.same((a, list(a), str(a)), (Word(4, 5), [1, 0, 1, 0], "b0101"))
        self.same((b, list(b), str(b)), (Word(4, 3), [1, 1, 0, 0], "b0011"))


class PiecesTest(CheckCase):
    def test_piece(self):
        for word in [word for word in some_words() if word.width <= 8]:
            bits = bits_of(word)
            for start in range(word.width + 1):
                for count in range(word.width - start + 1):
                    self.same(list(word.piece(start, count)), bits[start:start + count])

    def test_piece_of_a_long_word(self):
        word = Word(256, 2 ** 255 + 5)
        self.same(word.piece(0, 256), word)
        self.same(word.piece(255, 1), Word(1, 1))
        self.same(word.piece(256, 0), Word(0, 0))
        self.same(word.piece(2, 254), Word(254, 2 ** 253 + 1))

    def test_piece_with_wrong_arguments(self):
        word = Word(4, 5)
        for start in (-1, 5, HUGE):
            for count in (0, 1, -1, 6):
                self.fails(BadIndex(start), word.piece, start, count)
        for start in range(5):
            for count in (-1, 5 - start, HUGE):
                self.fails(BadIndex(count), word.piece, start, count)
        self.fails(BadIndex(1), Word(0, 0).piece, 0, 1)
        self.fails(BadIndex(1), Word(0, 0).piece, 1, 7)

    def test_above(self):
        for a in some_words():
            for b in some_words():
                if a.width + b.width <= 256:
                    self.same(list(a.above(b)), bits_of(b) + bits_of(a))

    def test_above_at_the_bound(self):
        self.same(Word(128, 1).above(Word(128, 3)), Word(256, 2 ** 128 + 3))
        self.same(Word(256, 9).above(Word(0, 0)), Word(256, 9))
        self.fails(BadWord(257, 2 ** 128 + 3), Word(129, 1).above, Word(128, 3))
        self.fails(BadWord(257, 3), Word(1, 0).above, Word(256, 3))
        self.fails(BadWord(512, 2 ** 512 - 1), Word(256, 2 ** 256 - 1).above,
                   Word(256, 2 ** 256 - 1))


class TextTest(CheckCase):
    def test_texts_are_read_back(self):
        for word in some_words():
            self.same(parse_word(str(word)), word)
        self.same(parse_word("b"), Word(0, 0))
        self.same(parse_word("b0110"), Word(4, 6))

    def test_wrong_first_character(self):
        self.fails(BadText(1, 1, "missing"), parse_word, "")
        for text in ("0", "1", "B0", " b", "\nb", "a", "x" * 300):
            self.fails(BadText(1, 1, "token"), parse_word, text)

    def test_wrong_digit(self):
        for wrong in ("2", " ", "\n", "b", "-", "a"):
            for column in (2, 3, 4, 256, 257):
                for rest in ("", "01", "2", "0" * 300):
                    text = "b" + "01" * ((column - 2) // 2) + "0" * (column % 2) + wrong + rest
                    self.assertEqual(text[column - 1], wrong)
                    self.fails(BadText(1, column, "token"), parse_word, text)

    def test_too_many_characters(self):
        for more in ("0", "1", "b", "\n", " ", "01", "x" * 100):
            self.fails(BadText(1, 258, "extra"), parse_word, "b" + "1" * 256 + more)
        self.same(parse_word("b" + "1" * 256), Word(256, 2 ** 256 - 1))


if __name__ == "__main__":
    unittest.main()

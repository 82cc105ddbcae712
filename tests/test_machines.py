"""Points 49 to 51, and what the interface says of machines.py."""

import random
import unittest

from checks import CheckCase
from plain_machines import (LAST, LOOSE, ODD, ODD_LENGTH, cycle, last_letters, least_of,
                            letter_rows, plain_accepts, plain_least, random_machine, row_of, view_of)
from wirewatch.errors import BadIndex, BadMachine, BadRow, Mismatch, TooLarge, UnknownWire
from wirewatch.machines import (accepts, check_machine, combine_machines, count_rows, flip,
                                is_telling, least, letters_of, machine_fault, shortest_row,
                                state_after, telling_row, turn, widen)

CHOICES = {"and": lambda a, b: a and b, "or": lambda a, b: a or b, "xor": lambda a, b: a != b}
# Read backwards from these, 60 and 61 sets of states are reached.
TURNED_60 = (("a",), ((1, 2), (3, 4), (5, 6), (6, 6), (2, 0), (0, 3), (5, 4)), (0, 0, 1, 0, 1, 1, 0))
TURNED_61 = (("a",), ((1, 2), (3, 3), (4, 4), (5, 0), (6, 2), (1, 5), (2, 3)), (1, 0, 1, 0, 0, 0, 1))
# With each op the least machine of the first two has 60 states, that of the others 61.
LEFT_60 = (("a",), ((7, 9), (2, 7), (9, 1), (8, 1), (9, 10), (6, 6), (10, 8), (7, 0), (8, 0), (2, 5),
                    (1, 10)), (1, 0, 1, 1, 1, 1, 1, 0, 0, 1, 0))
RIGHT_60 = (("a",), ((6, 1), (2, 2), (5, 8), (6, 0), (9, 8), (7, 9), (6, 8), (0, 9), (4, 7), (7, 8)),
            (0, 1, 0, 0, 1, 0, 0, 1, 0, 0))
LEFT_61 = (("a",), ((8, 8), (2, 10), (4, 8), (1, 4), (2, 4), (7, 10), (9, 5), (5, 7), (8, 5), (1, 9),
                    (4, 3)), (1, 1, 0, 1, 1, 1, 0, 0, 1, 1, 0))
RIGHT_61 = (("a",), ((0, 3), (10, 7), (2, 8), (5, 0), (10, 5), (4, 6), (9, 8), (2, 9), (0, 2), (6, 9),
                     (0, 6)), (0, 0, 1, 0, 1, 0, 0, 0, 1, 1, 0))
THREE = (("a", "b", "c"), ((0, 1, 0, 1, 0, 1, 0, 1), (1, 1, 1, 1, 0, 0, 0, 0)), (0, 1))
BAD = ((("a",), ((0, 1),), (0,)), "moves")
# One of each function that takes a machine and further arguments that are right.
CALLS = [(state_after, ()), (accepts, ()), (least,), (flip,), (turn,), (widen, ("a", "b")),
         (shortest_row,), (count_rows, 3)]


def random_machines(seed, count):
    source = random.Random(seed)
    for _ in range(count):
        names = ("a", "b", "c")[:source.randrange(4)]
        yield source, random_machine(source, names, source.randrange(1, 8))


def short_rows(machine, most=60):
    """Letter rows of short lengths, not many."""
    letters = 2 ** len(machine[0])
    length = {1: 20, 2: 5, 4: 3, 8: 2}[letters]
    return letter_rows(letters, length)


class FaultsTest(CheckCase):
    def test_each_alone(self):
        for code, machine in [
                ("names", (("a", "b", "c", "d"), ((0,) * 16,), (0,))),
                ("names", (("a", ""), ((0,) * 4,), (0,))),
                ("names", (("a", "B"), ((0,) * 4,), (0,))),
                ("names", (("a.b.",), ((0, 0),), (0,))),
                ("names", (("toolonga1",), ((0, 0),), (0,))),
                ("names", (("a", "b", "a"), ((0,) * 8,), (0,))),
                ("states", (("a",), (), ())),
                ("states", ((), (), ())),
                ("states", (("a",), (), (1,))),
                ("states", (("a",), ((0, 0),), ())),
                ("states", (("a",), ((0, 0),), (0, 1))),
                ("states", (("a",), ((0, 0), (0, 0)), (1,))),
                ("moves", (("a",), ((0, 0), (0,)), (0, 1))),
                ("moves", (("a",), ((0, 0), (0, 0, 0)), (0, 1))),
                ("moves", ((), ((),), (0,))),
                ("moves", ((), ((0, 0),), (0,))),
                ("moves", (("a",), ((0, 2), (0, 0)), (0, 1))),
                ("moves", (("a",), ((0, 0), (-1, 0)), (0, 1))),
                ("moves", (("a",), ((0, 0), (0, 10 ** 99)), (0, 1))),
                ("marks", (("a",), ((0, 0), (0, 0)), (0, 2))),
                ("marks", (("a",), ((0, 0), (0, 0)), (-1, 0))),
                ("marks", ((), ((0,),), (10 ** 99,)))]:
            with self.subTest(machine=machine):
                self.same(machine_fault(machine), code)
                self.fails(BadMachine(code), check_machine, machine)

    def test_two_at_once(self):
        for code, machine in [
                ("names", (("a", "a"), (), ())),
                ("names", (("!",), ((0, 9),), (0,))),
                ("names", (("a", "b", "c", "d"), ((0, 0),), (2,))),
                ("states", (("a",), ((0, 9), (0, 0)), (0,))),
                ("states", (("a",), ((0, 0), (0, 0)), (0, 1, 2))),
                ("states", (("a",), (), (2,))),
                ("moves", (("a",), ((0, 9), (0, 0)), (0, 2))),
                ("moves", (("a",), ((0, 1), (0,)), (3, 1)))]:
            with self.subTest(machine=machine):
                self.same(machine_fault(machine), code)
                self.fails(BadMachine(code), check_machine, machine)

    def test_none(self):
        for machine in (LAST, ODD, LOOSE, ODD_LENGTH, THREE, ((), ((0,),), (1,)), cycle(60),
                        (("u1.sum", "a"), ((0,) * 4,), (0,))):
            self.assertIsNone(machine_fault(machine))
            self.assertIsNone(check_machine(machine))

    def test_each_function_checks(self):
        bad, code = BAD
        for call, *args in CALLS:
            with self.subTest(call.__name__):
                self.fails(BadMachine(code), call, bad, *args)
        self.fails(BadMachine("names"), combine_machines, "and", (("a", "a"), (), ()), bad)
        self.fails(BadMachine("moves"), combine_machines, "and", ODD, bad)
        self.fails(BadMachine("moves"), telling_row, ODD, bad)
        self.fails(BadMachine("names"), telling_row, (("a", "a"), (), ()), bad)


class ReadingTest(CheckCase):
    def test_states(self):
        self.same(state_after(LAST, ()), 0)
        self.same(state_after(LAST, (1, 0, 1)), 1)
        self.same(state_after(LOOSE, (1, 1, 1, 0)), 2)
        self.same(state_after(LOOSE, (0,)), 4)
        self.same(state_after(THREE, (7, 3, 4)), 0)
        self.same(state_after(ODD_LENGTH, (0,) * 301), 1)

    def test_accepts(self):
        self.same(accepts(LAST, ()), False)
        self.same(accepts(LAST, (0, 1)), True)
        self.same(accepts(flip(LAST), ()), True)
        self.same(accepts(ODD, (3, 0, 2, 1)), True)
        self.same(accepts(ODD, (3, 0, 2, 1, 3)), False)

    def test_against_the_plain_reading(self):
        for source, machine in random_machines(1, 60):
            for row in short_rows(machine):
                self.same(accepts(machine, row), plain_accepts(machine, row))
                self.same(machine[2][state_after(machine, row)], int(plain_accepts(machine, row)))

    def test_letters_that_are_none(self):
        for call in (state_after, accepts):
            for machine, letters in ((LAST, (0, 1, 2)), (LAST, (0, -1, 1)), (ODD, (4,)), (ODD, (3, 10 ** 99)),
                                     (ODD_LENGTH, (0, 1, 0)), (ODD_LENGTH, (-1,)), (THREE, (7, 8, 9))):
                with self.subTest(letters=letters):
                    self.fails(BadRow(letters), call, machine, letters)
        self.fails(BadMachine("moves"), state_after, BAD[0], (9,))

    def test_letters_of(self):
        self.same(letters_of((("a", "b"), ((0, 0), (1, 0), (0, 1), (1, 1)))), (0, 1, 2, 3))
        self.same(letters_of((("b", "a", "c"), ((0, 1, 1),))), (6,))
        self.same(letters_of(((), ((), ()))), (0, 0))
        self.same(letters_of((("a",), ())), ())
        self.fails(BadRow((0,)), letters_of, (("a", "b"), ((0, 1), (0,), (2, 0))))
        self.fails(BadRow((2, 0)), letters_of, (("a", "b"), ((0, 1), (2, 0), (0,))))
        four = ("a", "b", "c", "d")
        self.fails(TooLarge("names", 3), letters_of, (four, ((0, 0, 0, 0),)))
        self.fails(TooLarge("names", 3), letters_of, (four, ()))
        self.fails(BadRow((0, 0, 0)), letters_of, (four, ((0, 0, 0),)))
        for names in ((), ("x",), ("x", "y"), ("x", "y", "z")):
            for letters in letter_rows(2 ** len(names), 2):
                self.same(letters_of(view_of(names, letters)), letters)


class LeastTest(CheckCase):
    def test_some(self):
        self.same(least(LOOSE), (("a",), ((1, 2), (1, 1), (2, 2)), (0, 0, 1)))
        self.same(least(LAST), LAST)
        self.same(least(ODD), ODD)
        self.same(least(ODD_LENGTH), ODD_LENGTH)
        # The same states in another order get the numbers of point 51.
        self.same(least((("a",), ((2, 1), (1, 1), (2, 2)), (0, 1, 0))),
                  (("a",), ((1, 2), (1, 1), (2, 2)), (0, 0, 1)))

    def test_one_state_is_left(self):
        source = random.Random(2)
        for names in ((), ("a",), ("a", "b", "c")):
            moves = random_machine(source, names, 60)[1]
            for mark in (0, 1):
                self.same(least((names, moves, (mark,) * 60)),
                          (names, ((0,) * 2 ** len(names),), (mark,)))

    def test_states_that_are_not_reached(self):
        machine = (("a",), ((0, 0), (0, 3), (1, 1), (2, 2)), (1, 0, 0, 1))
        self.same(least(machine), (("a",), ((0, 0),), (1,)))

    def test_all_states_stay(self):
        for machine in (cycle(60), cycle(60, ("a", "b", "c"), 59), last_letters(5)):
            found = least(machine)
            self.assertEqual(len(found[2]), len(machine[2]))
            self.same(found, least_of(machine))

    def test_a_long_line_of_states(self):
        # Each state but the last one goes on; only the last one is marked.
        moves = tuple((min(state + 1, 59),) * 2 for state in range(60))
        machine = (("a",), moves, (0,) * 59 + (1,))
        self.same(least(machine), machine)

    def test_against_plain_least(self):
        for source, machine in random_machines(3, 300):
            found = least(machine)
            self.same(found, least_of(machine))
            self.same(least(found), found)
            self.same(flip(flip(machine)), found)

    def test_numbering(self):
        for source, machine in random_machines(4, 60):
            names, moves, _ = least(machine)
            order = [0]
            for row in moves:
                order += [after for at, after in enumerate(row) if after not in order and after not in row[:at]]
            self.assertEqual(order, list(range(len(moves))))

    def test_equal_if_and_only_if_they_accept_the_same(self):
        machines = [machine for _, machine in random_machines(5, 200) if machine[0] == ("a",)]
        for first in machines:
            for second in machines[:10]:
                rows = letter_rows(2, 7)
                alike = all(plain_accepts(first, row) == plain_accepts(second, row) for row in rows)
                self.assertEqual(alike, least(first) == least(second) or None is not telling_row(first, second)
                                 and len(telling_row(first, second)) > 7)


class MadeTest(CheckCase):
    def check_rows(self, machine, accepted, length):
        for row in letter_rows(2 ** len(machine[0]), length):
            self.assertEqual(plain_accepts(machine, row), accepted(row), (machine, row))
        self.same(machine, least_of(machine))

    def length_for(self, machine):
        return {0: 12, 1: 7, 2: 4, 3: 3}[len(machine[0])]

    def test_flip(self):
        self.same(flip(LAST), (("a",), ((0, 1), (0, 1)), (1, 0)))
        for source, machine in random_machines(6, 40):
            self.check_rows(flip(machine), lambda row: not plain_accepts(machine, row), self.length_for(machine))

    def test_turn(self):
        # The rows that begin with 1.
        self.same(turn(LAST), (("a",), ((1, 2), (1, 1), (2, 2)), (0, 0, 1)))
        for source, machine in random_machines(7, 60):
            if len(machine[2]) <= 5:
                self.check_rows(turn(machine), lambda row: plain_accepts(machine, row[::-1]),
                                self.length_for(machine))
                self.same(turn(turn(machine)), least_of(machine))

    def test_turn_at_the_limit(self):
        self.assertEqual(len(turn(TURNED_60)[2]), 60)
        self.same(turn(turn(TURNED_60)), least_of(TURNED_60))
        self.fails(TooLarge("states", 60), turn, TURNED_61)
        self.fails(TooLarge("states", 60), turn, random_machine(random.Random(1), ("a", "b", "c"), 60))
        self.same(turn(cycle(60)), cycle(60))
        # States that are not reached and states that are alike do not count.
        names, moves, marks = TURNED_60
        self.same(turn((names, moves + ((1, 2), (8, 7)), marks + (1, 0))), turn(TURNED_60))
        doubled = tuple((low + 7, high) for low, high in moves)
        self.same(turn((names, doubled + doubled, marks + marks)), turn(TURNED_60))

    def test_combine(self):
        odd = (("a",), ((1, 1), (0, 0)), (0, 1))
        self.same(combine_machines("and", odd, LAST), (("a",), ((1, 2), (0, 0), (0, 0)), (0, 0, 1)))
        self.same(combine_machines("xor", LAST, LAST), (("a",), ((0, 0),), (0,)))
        self.same(combine_machines("or", LAST, flip(LAST)), (("a",), ((0, 0),), (1,)))
        for source, machine in random_machines(8, 60):
            other = random_machine(source, machine[0], source.randrange(1, 6))
            for op, choose in CHOICES.items():
                self.check_rows(
                    combine_machines(op, machine, other),
                    lambda row: choose(plain_accepts(machine, row), plain_accepts(other, row)),
                    self.length_for(machine))

    def test_combine_at_the_limit(self):
        for op, choose in CHOICES.items():
            found = combine_machines(op, LEFT_60, RIGHT_60)
            self.assertEqual(len(found[2]), 60)
            self.same(found, plain_least(
                ("a",), (0, 0), lambda pair, letter: (LEFT_60[1][pair[0]][letter], RIGHT_60[1][pair[1]][letter]),
                lambda pair: choose(LEFT_60[2][pair[0]], RIGHT_60[2][pair[1]])))
            self.fails(TooLarge("states", 60), combine_machines, op, LEFT_61, RIGHT_61)
            self.assertEqual(len(combine_machines(op, cycle(12), cycle(5))[2]), 60)
            self.fails(TooLarge("states", 60), combine_machines, op, cycle(7), cycle(9))

    def test_combine_with_more_pairs_than_states(self):
        source = random.Random(9)
        for names in (("a",), ("a", "b", "c")):
            first = random_machine(source, names, 60)
            second = random_machine(source, names, 60)
            never = (names, second[1], (0,) * 60)
            always = (names, second[1], (1,) * 60)
            self.same(combine_machines("and", first, never), (names, ((0,) * 2 ** len(names),), (0,)))
            self.same(combine_machines("or", always, first), (names, ((0,) * 2 ** len(names),), (1,)))
            self.same(combine_machines("xor", first, never), least(first))
            self.same(combine_machines("xor", always, first), flip(first))
            self.fails(TooLarge("states", 60), combine_machines, "xor", first, second)
        # 60 and 1740 pairs of states are reached, but the marks never meet.
        self.same(combine_machines("and", cycle(60), cycle(60, marked=1)), (("a",), ((0, 0),), (0,)))
        self.same(combine_machines("and", cycle(60), cycle(58, marked=1)), (("a",), ((0, 0),), (0,)))

    def test_order_of_errors(self):
        other = (("b",), LAST[1], LAST[2])
        for call in (telling_row, lambda first, second: combine_machines("or", first, second)):
            self.fails(Mismatch("names"), call, LAST, other)
            self.fails(Mismatch("names"), call, ODD, LAST)
            self.fails(BadMachine("states"), call, LAST, (("b",), (), ()))
        first, second = random_machine(random.Random(1), ("a",), 60), random_machine(random.Random(2), ("b",), 60)
        self.fails(Mismatch("names"), combine_machines, "xor", first, second)
        # The order of the wires counts.
        self.fails(Mismatch("names"), combine_machines, "and", ODD, (("b", "a"), ODD[1], ODD[2]))


class WidenTest(CheckCase):
    def test_some(self):
        self.same(widen(LAST, ("a",)), LAST)
        self.same(widen(LAST, ("b", "a")), (("b", "a"), ((0, 0, 1, 1), (0, 0, 1, 1)), (0, 1)))
        self.same(widen(ODD_LENGTH, ("x",)), (("x",), ((1, 1), (0, 0)), (0, 1)))
        self.same(widen(ODD_LENGTH, ()), ODD_LENGTH)
        self.same(widen(LOOSE, ("a",)), least_of(LOOSE))
        self.same(widen(ODD, ("b", "a")), (("b", "a"), ODD[1], ODD[2]))
        self.same(widen((("a", "b"), ((0, 1, 0, 1), (0, 1, 0, 1)), (0, 1)), ("b", "a")),
                  (("b", "a"), ((0, 0, 1, 1), (0, 0, 1, 1)), (0, 1)))

    def test_against_the_plain_reading(self):
        for source, machine in random_machines(10, 80):
            names = list(machine[0]) + source.sample(("d", "e", "f"), 3 - len(machine[0]))
            source.shuffle(names)
            found = widen(machine, tuple(names))
            self.assertEqual(found[0], tuple(names))
            for row in letter_rows(8, 3):
                bits = [dict(zip(names, row_of(letter, 3))) for letter in row]
                old = [sum(bit[wire] << place for place, wire in enumerate(machine[0])) for bit in bits]
                self.assertEqual(plain_accepts(found, row), plain_accepts(machine, old))
            self.same(found, least_of(found))

    def test_errors(self):
        self.fails(TooLarge("names", 3), widen, LAST, ("a", "b", "c", "d"))
        self.fails(TooLarge("names", 3), widen, LAST, ("w", "x", "y", "z"))
        self.fails(UnknownWire("a"), widen, LAST, ("b",))
        self.fails(UnknownWire("a"), widen, LAST, ())
        self.fails(UnknownWire("a"), widen, ODD, ("c",))
        self.fails(UnknownWire("b"), widen, ODD, ("c", "a"))
        self.fails(UnknownWire("a"), widen, (("b", "a"), ODD[1], ODD[2]), ("b", "c", "d"))
        self.fails(BadMachine("moves"), widen, BAD[0], ("w", "x", "y", "z"))


class RowsTest(CheckCase):
    def test_shortest_row(self):
        self.same(shortest_row(LAST), (1,))
        self.same(shortest_row(flip(LAST)), ())
        self.same(shortest_row((("a",), ((0, 0),), (0,))), None)
        self.same(shortest_row(ODD), (3,))
        self.same(shortest_row(LOOSE), (1,))
        # A marked state that is not reached.
        self.same(shortest_row((("a",), ((0, 0), (1, 0)), (0, 1))), None)
        # Two ways to one state, and two marked states of one length: the first letter decides.
        self.same(shortest_row((("a",), ((2, 1), (3, 0), (0, 3), (3, 3)), (0, 0, 0, 1))), (0, 1))
        self.same(shortest_row((("a",), ((1, 2), (1, 3), (4, 2), (3, 3), (4, 4)), (0, 0, 0, 1, 1))), (0, 1))
        self.same(shortest_row(cycle(60, marked=59)), (0,) * 59)

    def test_shortest_row_against_all_rows(self):
        for source, machine in random_machines(11, 100):
            rows = [row for row in short_rows(machine) if plain_accepts(machine, row)]
            found = shortest_row(machine)
            if rows:
                self.same(found, rows[0])
            elif found is not None:
                self.assertTrue(plain_accepts(machine, found))
                self.assertGreater(found, ())

    def test_telling_row(self):
        self.same(telling_row(LAST, LAST), None)
        self.same(telling_row(LOOSE, least(LOOSE)), None)
        self.same(telling_row(LAST, flip(LAST)), ())
        self.same(telling_row(LAST, (("a",), ((0, 0),), (0,))), (1,))
        self.same(telling_row(LAST, (("a",), ((0, 1), (1, 1)), (0, 1))), (1, 0))
        self.same(telling_row(cycle(59), cycle(60)), (0,) * 59)
        self.assertEqual(len(telling_row(cycle(59, ("a", "b"), 58), cycle(60, ("a", "b"), 58))), 58 + 59)
        for source, machine in random_machines(12, 100):
            other = random_machine(source, machine[0], source.randrange(1, 8))
            rows = [row for row in short_rows(machine) if plain_accepts(machine, row) != plain_accepts(other, row)]
            found = telling_row(machine, other)
            self.same(found, telling_row(other, machine))
            if rows:
                self.same(found, rows[0])
            if found is not None:
                self.same(is_telling(machine, other, found), True)
            self.assertEqual(found is None, least_of(machine) == least_of(other))

    def test_is_telling(self):
        self.same(is_telling(LAST, flip(LAST), (0, 1, 0)), True)
        self.same(is_telling(LAST, LAST, (0, 1, 0)), False)
        self.same(is_telling(LAST, flip(LAST), ()), True)
        for source, machine in random_machines(13, 30):
            other = random_machine(source, machine[0], 4)
            for row in short_rows(machine):
                self.same(is_telling(machine, other, row), plain_accepts(machine, row) != plain_accepts(other, row))

    def test_is_telling_order_of_errors(self):
        bad, other = BAD[0], (("b",), LAST[1], LAST[2])
        self.fails(BadMachine("moves"), is_telling, bad, (("a", "a"), (), ()), (9,))
        self.fails(BadMachine("moves"), is_telling, LAST, bad, (9,))
        self.fails(BadRow((1, 2)), is_telling, LAST, other, (1, 2))
        self.fails(BadRow((-1,)), is_telling, LAST, LAST, (-1,))
        self.fails(Mismatch("names"), is_telling, LAST, other, (1,))
        # The letters are those of the first machine.
        self.fails(BadRow((3,)), is_telling, LAST, ODD, (3,))
        self.fails(Mismatch("names"), is_telling, ODD, LAST, (3,))

    def test_count_rows(self):
        self.same(count_rows(LAST, 0), 0)
        self.same(count_rows(flip(LAST), 0), 1)
        self.same(count_rows(LAST, 60), 2 ** 59)
        self.same(count_rows(THREE, 60), sum(plain_accepts(THREE, (letter,)) for letter in range(8)) * 8 ** 59)
        self.same(count_rows((THREE[0], ((0,) * 8,), (1,)), 60), 8 ** 60)
        self.same(count_rows(ODD_LENGTH, 59), 1)
        self.same(count_rows(ODD_LENGTH, 60), 0)
        for number in (-1, 61, 10 ** 99):
            self.fails(BadIndex(number), count_rows, LAST, number)
            self.fails(BadMachine("moves"), count_rows, BAD[0], number)
        for source, machine in random_machines(14, 60):
            rows = [row for row in short_rows(machine) if plain_accepts(machine, row)]
            for length in range(4 if len(machine[0]) < 3 else 3):
                self.same(count_rows(machine, length), sum(len(row) == length for row in rows))


if __name__ == "__main__":
    unittest.main()

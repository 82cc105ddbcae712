"""Points 20, 21, 35, 58 and 69 to 73, and what the interface says of stimuli.py."""

import itertools
import random
import unittest

from checks import CheckCase
from plain_patterns import random_pattern
from plain_stimuli import (all_below, plain_coverage, plain_fails, plain_reductions, plain_smallest,
                           plain_stimulus_text)
from samples import (BIG, COUNTER, EMPTY, FAULT, FAULT_AND_RING, RING, plain_outputs, plain_run,
                     random_net, random_row, random_stimulus, rows_of, wide_net, wires_of)
from wirewatch.always import failing_run
from wirewatch.errors import BadNet, BadRow, BadText, Mismatch, NotFailing, TooLarge, UnknownWire
from wirewatch.pattern_text import parse_pattern
from wirewatch.stimuli import (Coverage, coverage, is_below, is_smallest, parse_record,
                               parse_stimulus, record_of, record_text, reductions, replay, shrink,
                               stimulus_text)
from wirewatch.watch import attach

ONE, NONE = (1,), ()
# `late` is 1 at a tick behind two ticks at which `a` is 1, while `b` is 1.
LATE = (("a", "b"), (("n", "and", ("a", "r")), ("late", "and", ("s", "b"))),
        (("r", 0, "a"), ("s", 0, "n")), ("late",))
# It fails at three ticks with `a` 1, 0, 1 and at one tick with 1, but not between: see point 72.
GAP = (("a",), (("n", "not", ("r",)), ("first", "not", ("t",)), ("x", "and", ("a", "s")), ("y", "and", ("x", "n")),
                ("o", "one", ()), ("z", "and", ("first", "a")), ("bad", "or", ("y", "z"))),
       (("t", 0, "o"), ("r", 0, "a"), ("s", 0, "r")), ())


class StimulusTextTest(CheckCase):
    def test_example(self):
        self.same(stimulus_text(("a",), (ONE, ONE, (0,))), "in a\n1 * 2\n0\n")

    def test_groups(self):
        for count, lines in ((1, ["1"]), (2, ["1 * 2"]), (98, ["1 * 98"]), (99, ["1 * 99"]), (100, ["1 * 99", "1"]),
                             (101, ["1 * 99", "1 * 2"]), (197, ["1 * 99", "1 * 98"]), (198, ["1 * 99"] * 2),
                             (199, ["1 * 99"] * 2 + ["1"]), (297, ["1 * 99"] * 3), (300, ["1 * 99"] * 3 + ["1 * 3"])):
            text = stimulus_text(("a",), (ONE,) * count)
            self.same(text, "".join(line + "\n" for line in ["in a"] + lines))
            self.same(parse_stimulus(text), (("a",), (ONE,) * count))
            self.same(stimulus_text((), (NONE,) * count), text.replace("in a", "in").replace("1\n", "-\n").replace("1 *", "- *"))

    def test_some(self):
        self.same(stimulus_text((), ()), "in\n")
        self.same(stimulus_text((), (NONE,)), "in\n-\n")
        self.same(stimulus_text(("a", "u1.b"), ()), "in a u1.b\n")
        self.same(stimulus_text(("a", "u1.b"), ((0, 1), (1, 0), (1, 0), (0, 1))), "in a u1.b\n01\n10 * 2\n01\n")
        self.same(stimulus_text(("c", "b", "a"), ((0, 0, 1),) * 3), "in c b a\n001 * 3\n")

    def test_there_and_back(self):
        source = random.Random(1)
        for _ in range(200):
            inputs = tuple(f"i{at}" for at in range(source.randrange(4)))
            stimulus = []
            for _ in range(source.randrange(6)):
                stimulus += [random_row(source, len(inputs))] * source.choice((1, 1, 1, 2, 5, 40))
            stimulus = tuple(stimulus)
            text = stimulus_text(inputs, stimulus)
            self.same(text, plain_stimulus_text(inputs, stimulus))
            self.same(parse_stimulus(text), (inputs, stimulus))

    def test_errors(self):
        self.fails(BadNet("name", "A"), stimulus_text, ("b", "A"), ((7,),))
        self.fails(BadNet("name", ""), stimulus_text, ("",), ())
        self.fails(BadNet("twice", "a"), stimulus_text, ("a", "b", "a"), ((7,),))
        self.fails(BadRow((0,)), stimulus_text, ("a", "b"), ((0, 1), (0,), (2, 0)))
        self.fails(BadRow((0, 2)), stimulus_text, ("a", "b"), ((0, 1), (0, 2), (0,)))
        self.fails(BadRow(ONE), stimulus_text, (), (NONE, ONE))
        self.fails(BadRow((3,)), stimulus_text, ("a",), (ONE,) * 301 + ((3,),))
        self.fails(TooLarge("ticks", 300), stimulus_text, ("a",), (ONE,) * 301)


class ReadStimulusTest(CheckCase):
    def read(self, text):
        return parse_stimulus(text)

    def test_some(self):
        self.same(self.read("in a\n1 * 2\n0\n"), (("a",), (ONE, ONE, (0,))))
        self.same(self.read("in\n- * 3\n-"), ((), (NONE,) * 4))
        self.same(self.read("in"), ((), ()))
        self.same(self.read("in a a\n01\n10"), (("a", "a"), ((0, 1), (1, 0))))
        self.same(self.read("in in out.in\n01\n"), (("in", "out.in"), ((0, 1),)))
        self.same(self.read("\n  \n# in b\n   in   a  \n # 0\n\n  1   *   12  \n0\n   "),
                  (("a",), (ONE,) * 12 + ((0,),)))
        self.same(self.read("in a\n1 * 99\n1 * 9\n"), (("a",), (ONE,) * 108))
        self.same(self.read("in a\n" + "1 * 99\n" * 3 + "1 * 3"), (("a",), (ONE,) * 300))

    def test_mistakes(self):
        for text, line, column, code in [
                ("", 1, 1, "end"), ("\n\n", 3, 1, "end"), ("# in a", 2, 1, "end"), ("   ", 2, 1, "end"),
                ("out a\n", 1, 1, "token"), (" inn a\n", 1, 2, "token"), ("1\n", 1, 1, "token"),
                ("in a B c\n", 1, 6, "token"), ("in a.\n", 1, 4, "token"), ("in  *\n", 1, 5, "token"),
                ("in a\nin b\n", 2, 1, "token"), ("in a\n01\n", 2, 1, "token"), ("in a\n-\n", 2, 1, "token"),
                ("in\n0\n", 2, 1, "token"), ("in\n--\n", 2, 1, "token"), ("in a b\n1\n", 2, 1, "token"),
                ("in a b\n\n  12\n", 3, 3, "token"), ("in a\n1\n2\n", 3, 1, "token"), ("in a b\n1-\n", 2, 1, "token"),
                ("in a\n1 2\n", 2, 3, "token"), ("in a\n1 1\n", 2, 3, "token"), ("in a\n1 # x\n", 2, 3, "token"),
                ("in a\n1 ** 2\n", 2, 3, "token"), ("in a\n1*2\n", 2, 1, "token"), ("in a\n* 2\n", 2, 1, "token"),
                ("in a\n1 *\n", 2, 4, "missing"), ("in a\n1 *  \n", 2, 6, "missing"), ("in a\n1  *", 2, 5, "missing"),
                ("in a\n1 * 0\n", 2, 5, "token"), ("in a\n1 * 00\n", 2, 5, "token"), ("in a\n1 * 01\n", 2, 5, "token"),
                ("in a\n1 * 100\n", 2, 5, "token"), ("in a\n1 * 099\n", 2, 5, "token"), ("in a\n1 * -1\n", 2, 5, "token"),
                ("in a\n1 * x\n", 2, 5, "token"), ("in a\n1 * *\n", 2, 5, "token"), ("in a\n1 * 1x\n", 2, 5, "token"),
                ("in a\n1 * 2 3\n", 2, 7, "extra"), ("in a\n1 * 2 *\n", 2, 7, "extra"), ("in a\n1 * 2  # x\n", 2, 8, "extra"),
                ("in a\n1 * 0 3\n", 2, 5, "token"), ("in a\n1 * 2\n0 *\n2\n", 3, 4, "missing")]:
            with self.subTest(text=text):
                self.fails(BadText(line, column, code), self.read, text)

    def test_counts(self):
        self.same(self.read("in a\n1 * 1\n"), (("a",), (ONE,)))
        self.same(self.read("in a\n1 * 99\n"), (("a",), (ONE,) * 99))

    def test_size(self):
        self.fails(TooLarge("ticks", 300), self.read, "in a\n" + "1 * 99\n" * 3 + "1 * 4")
        self.fails(TooLarge("ticks", 300), self.read, "in a\n" + "1\n" * 301)
        self.assertEqual(len(self.read("in a\n" + "1\n" * 300)[1]), 300)
        # The text is read whole before.
        self.fails(BadText(6, 1, "token"), self.read, "in a\n" + "1 * 99\n" * 4 + "2")
        self.fails(TooLarge("ticks", 300), self.read, "in\n" + "- * 99\n" * 500)


class RecordTest(CheckCase):
    RECORD = (("a", "b"), ("x",), (((0, 1), (1,)), ((0, 1), (1,)), ((1, 1), (0,))))

    def test_record_of(self):
        self.same(record_of(COUNTER, ((1,), (1,), (0,))),
                  (("up",), COUNTER[3], (((1,), (0, 0, 0, 1)), ((1,), (0, 1, 1, 1)), ((0,), (1, 0, 0, 0)))))
        self.same(record_of(EMPTY, (NONE, NONE)), ((), (), ((NONE, NONE), (NONE, NONE))))
        self.same(record_of(COUNTER, ()), (("up",), COUNTER[3], ()))
        source = random.Random(2)
        for _ in range(40):
            net = random_net(source, source.randrange(3), source.randrange(6), source.randrange(4))
            stimulus = random_stimulus(source, net, source.randrange(6))
            states = plain_run(net, stimulus)[1]
            record = record_of(net, stimulus)
            self.same(record, (net[0], net[3], tuple(
                (row, plain_outputs(net, row, state)) for row, state in zip(stimulus, states))))
            self.same(replay(net, record), None)
            self.same(parse_record(record_text(record)), record)
        self.fails(BadRow((2,)), record_of, COUNTER, ((1,), (2,)))
        self.fails(TooLarge("ticks", 300), record_of, COUNTER, ((1,),) * 301)
        self.fails(BadNet("ring", "x"), record_of, RING, ((7,),))
        self.fails(BadNet("unknown", "q"), record_of, FAULT, ((7,),))

    def test_record_text(self):
        self.same(record_text(self.RECORD), "in a b\nout x\n01 1\n01 1\n11 0\n")
        self.same(record_text(((), (), ())), "in\nout\n")
        self.same(record_text(((), (), ((NONE, NONE),) * 2)), "in\nout\n- -\n- -\n")
        self.same(record_text(((), ("x",), ((NONE, ONE),))), "in\nout x\n- 1\n")
        self.same(record_text((("a",), (), ((ONE, NONE),))), "in a\nout\n1 -\n")
        # The same wire may be an input and an output.
        self.same(record_text((("a",), ("a",), ((ONE, ONE),) * 300)), "in a\nout a\n" + "1 1\n" * 300)

    def test_errors_of_record_text(self):
        bad = (((2,), (2,)),)
        self.fails(BadNet("name", "A"), record_text, (("A",), ("B",), bad))
        self.fails(BadNet("twice", "a"), record_text, (("a", "a"), ("B",), bad))
        self.fails(BadNet("name", "B"), record_text, (("a",), ("B",), bad))
        self.fails(BadNet("twice", "b"), record_text, (("a",), ("b", "b"), bad))
        names = (("a",), ("x", "y"))
        for row, outs, due in (((2,), (2, 2), (2,)), ((0,), (0,), (0,)), ((), (), ()), ((1,), (1, 3), (1, 3)),
                               ((1,), (0, 1, 0), (0, 1, 0)), ((0, 1), (0,), (0, 1))):
            self.fails(BadRow(due), record_text, names + (((ONE, (0, 0)), (row, outs), ((5,), (5,))),))
            self.fails(BadRow(due), record_text, names + (((ONE, (0, 0)),) * 301 + ((row, outs),),))
        self.fails(TooLarge("ticks", 300), record_text, names + (((ONE, (0, 0)),) * 301,))

    def test_read_record(self):
        self.same(parse_record("in a b\nout x\n01 1\n01 1\n11 0\n"), self.RECORD)
        self.same(parse_record("in\nout"), ((), (), ()))
        self.same(parse_record("# r\n in \n\n out  x  x\n  -   10 \n\n# 1\n- 01"),
                  ((), ("x", "x"), ((NONE, (1, 0)), (NONE, (0, 1)))))
        self.same(parse_record("in in\nout\n1 -\n"), (("in",), (), ((ONE, NONE),)))
        self.assertEqual(len(parse_record("in\nout\n" + "- -\n" * 300)[2]), 300)
        self.fails(TooLarge("ticks", 300), parse_record, "in\nout\n" + "- -\n" * 301)
        self.fails(BadText(304, 3, "token"), parse_record, "in\nout\n" + "- -\n" * 301 + "- 1")

    def test_mistakes(self):
        for text, line, column, code in [
                ("", 1, 1, "end"), ("in a\n", 2, 1, "end"), ("in a\n\n# out x\n", 4, 1, "end"), ("in a\n   ", 3, 1, "end"),
                ("out a\n", 1, 1, "token"), ("in A\n", 1, 4, "token"), ("in a\n1 1\n", 2, 1, "token"),
                ("in a\nin b\n", 2, 1, "token"), ("in a\nout x 1\n", 2, 7, "token"), ("in a\nout x..y\n", 2, 5, "token"),
                ("in a\nout x\n1\n", 3, 2, "missing"), ("in a\nout x\n1  \n", 3, 4, "missing"), ("in a\nout x\n1", 3, 2, "missing"),
                ("in a\nout x\n2\n", 3, 1, "token"), ("in a\nout x\n11 1\n", 3, 1, "token"), ("in a\nout x\n- 1\n", 3, 1, "token"),
                ("in a\nout x\n1 -\n", 3, 3, "token"), ("in a\nout x\n1 10\n", 3, 3, "token"), ("in a\nout x\n1 *\n", 3, 3, "token"),
                ("in\nout x\n1 1\n", 3, 1, "token"), ("in a\nout\n1 1\n", 3, 3, "token"), ("in a\nout\n1\n", 3, 2, "missing"),
                ("in a\nout x\n1 1 1\n", 3, 5, "extra"), ("in a\nout x\n1 1 * 2\n", 3, 5, "extra"), ("in a\nout x\n1 0  #\n", 3, 6, "extra"),
                ("in a\nout x\n0 1\nout y\n", 4, 1, "token"), ("in a\nout x\n0 1\n\n x\n", 5, 2, "token")]:
            with self.subTest(text=text):
                self.fails(BadText(line, column, code), parse_record, text)


class ReplayTest(CheckCase):
    def test_replay(self):
        inputs, outputs, ticks = record_of(COUNTER, ((1,), (1,), (0,), (1,)))
        self.same(replay(COUNTER, (inputs, outputs, ticks)), None)
        self.same(replay(COUNTER, (inputs, outputs, ())), None)

        def changed(*places):
            new = [[row, list(outs)] for row, outs in ticks]
            for tick, place in places:
                new[tick][1][place] ^= 1
            return inputs, outputs, tuple((row, tuple(outs)) for row, outs in new)

        self.same(replay(COUNTER, changed((2, 1))), (2, "r0"))
        self.same(replay(COUNTER, changed((0, 3))), (0, "up"))
        self.same(replay(COUNTER, changed((1, 2), (1, 0))), (1, "r1"))
        self.same(replay(COUNTER, changed((3, 0), (1, 3))), (1, "up"))
        self.same(replay(COUNTER, changed((3, 0), (3, 1), (3, 2), (3, 3))), (3, "r1"))
        # The run goes on by the rows of the record, not by its outs.
        self.same(replay(COUNTER, changed((0, 0), (1, 0))), (0, "r1"))

    def test_errors(self):
        ticks = (((1,), (0, 0, 0, 1)),)
        good = (("up",), COUNTER[3], ticks)
        self.fails(BadNet("ring", "x"), replay, RING, good)
        self.fails(BadNet("unknown", "q"), replay, FAULT, (("up",), (), (((7,), ()),)))
        self.fails(Mismatch("inputs"), replay, COUNTER, (("x",), (), (((1,), ()),)))
        self.fails(Mismatch("inputs"), replay, COUNTER, ((), (), ()))
        self.fails(Mismatch("outputs"), replay, COUNTER, (("up",), COUNTER[3][::-1], ticks))
        self.fails(Mismatch("outputs"), replay, COUNTER, (("up",), (), (((1,), ()),)))
        # The lengths are those of the record's own inputs and outputs.
        self.fails(BadRow((1,)), replay, COUNTER, (("up", "b"), COUNTER[3], ticks))
        self.fails(BadRow((0, 0, 0, 1)), replay, COUNTER, (("up",), ("x",), ticks))
        self.fails(BadRow((2,)), replay, COUNTER, (("x",), ("y",), (((1,), (1,)), ((2,), (2,)))))
        self.fails(BadRow((2, 0)), replay, COUNTER, (("x",), ("y", "y"), (((1,), (2, 0)), ((2,), (2,)))))
        self.fails(TooLarge("ticks", 300), replay, COUNTER, (("x",), (), (((1,), ()),) * 301))
        # The wires of the record are not checked.
        self.fails(Mismatch("inputs"), replay, COUNTER, (("X", "X"), (), ()))
        self.same(replay(BIG, record_of(BIG, ((1, 0, 1, 0, 1, 0),) * 3)), None)


class ReductionsTest(CheckCase):
    def test_some(self):
        self.same(reductions(()), ())
        self.same(reductions((NONE, NONE)), ((NONE,), (NONE,)))
        self.same(reductions(((0, 0),)), ((),))
        self.same(reductions(((1, 0), (1, 1))), (
            ((1, 1),), ((1, 0),), ((0, 0), (1, 1)), ((1, 0), (0, 1)), ((1, 0), (1, 0))))
        # Equal ones occur.
        self.same(reductions((ONE, ONE)), ((ONE,), (ONE,), ((0,), ONE), (ONE, (0,))))
        source = random.Random(3)
        for _ in range(60):
            count = source.randrange(4)
            stimulus = tuple(random_row(source, count) for _ in range(source.randrange(13)))
            self.same(reductions(stimulus), plain_reductions(stimulus))

    def test_errors(self):
        self.assertEqual(len(reductions((ONE,) * 12)), 24)
        self.fails(TooLarge("ticks", 12), reductions, (ONE,) * 13)
        self.fails(BadRow((1, 2)), reductions, ((1, 0), (1, 2), (3, 3)))
        self.fails(BadRow((-1,)), reductions, (ONE,) * 13 + ((-1,),))

    def test_is_below(self):
        for small, large, due in [
                ((), (), True), ((), (ONE,), True), ((ONE,), (), False), ((NONE,), (NONE, NONE), True),
                ((NONE, NONE), (NONE,), False), (((0, 1),), ((1, 1),), True), (((0, 1),), ((1, 0),), False),
                ((ONE, (0,), ONE), (ONE, ONE, ONE), True), ((ONE, ONE), (ONE, (0,), ONE), True),
                ((ONE, ONE), (ONE, (0,)), False), (((0,), ONE), (ONE, (0,)), False), (((0,),) * 3, (ONE,) * 3, True),
                (((1, 0), (0, 1)), ((0, 1), (1, 0)), False), (((1, 0), (0, 1)), ((0, 1), (1, 0), (1, 1)), True)]:
            with self.subTest(small=small, large=large):
                self.same(is_below(small, large), due)
        source = random.Random(4)
        for _ in range(60):
            count = source.randrange(3)
            large = tuple(random_row(source, count) for _ in range(source.randrange(6)))
            below = all_below(large)
            for small in itertools.chain(*[itertools.product(rows_of(count), repeat=size) for size in range(4)]):
                self.same(is_below(small, large), small in below)

    def test_is_below_of_long_ones(self):
        self.same(is_below(((0,) * 300,) * 300, ((1,) * 300,) * 300), True)
        self.same(is_below(((0,), ONE) * 150, (ONE, (0,)) * 150), False)

    def test_errors_of_is_below(self):
        bad = ((1,), (2,), (3,))
        self.fails(BadRow((2,)), is_below, bad, ((4,),))
        self.fails(BadRow((4,)), is_below, (ONE,), ((4,),))
        self.fails(TooLarge("ticks", 300), is_below, (ONE,) * 301, ((4,),))
        self.fails(TooLarge("ticks", 300), is_below, (ONE,), (ONE,) * 301)
        self.fails(BadRow((2,)), is_below, (ONE,) * 301 + bad, ())
        self.fails(BadRow((4,)), is_below, (ONE,), (ONE,) * 301 + ((4,),))


class ShrinkTest(CheckCase):
    def test_is_smallest(self):
        self.same(is_smallest(LATE, "late", ((1, 0), (1, 0), (0, 1))), True)
        self.same(is_smallest(LATE, "late", ((1, 0), (1, 1), (0, 1))), False)
        self.same(is_smallest(LATE, "late", ((0, 0), (1, 0), (1, 0), (0, 1))), False)
        self.same(is_smallest(LATE, "late", ()), False)
        self.same(is_smallest(LATE, "late", ((1, 0), (1, 0), (0, 0))), False)
        self.same(is_smallest(LATE, "a", ((1, 0),)), True)
        # No reduction of it is failing, but a stimulus below it is.
        self.same(is_smallest(GAP, "bad", (ONE, (0,), ONE)), True)
        self.same(is_smallest(GAP, "bad", (ONE,)), True)
        self.same(is_below((ONE,), (ONE, (0,), ONE)), True)

    def test_shrink(self):
        self.same(shrink(LATE, "late", ((1, 1),) * 12), ((1, 0), (1, 0), (0, 1)))
        self.same(shrink(LATE, "a", ((1, 1), (1, 1))), ((1, 0),))
        self.same(shrink(GAP, "bad", (ONE, (0,), ONE)), (ONE, (0,), ONE))
        self.same(shrink(BIG, "s", ((1,) * 6,)), ((0,) * 6,))

    def test_errors(self):
        long = ((1, 0),) * 13
        for call in (is_smallest, shrink):
            self.fails(BadNet("unknown", "q"), call, FAULT, "z", ((7,),))
            self.fails(BadNet("ring", "x"), call, RING, "z", ((7,),))
            self.fails(BadNet("twice", "x"), call, FAULT_AND_RING, "z", ((7,),))
            self.fails(BadRow((7,)), call, LATE, "z", ((0, 0), (7,), (8,)))
            self.fails(BadRow((7,)), call, LATE, "z", long + ((7,),))
            self.fails(TooLarge("ticks", 12), call, LATE, "z", long)
            self.fails(UnknownWire("z"), call, LATE, "z", ())
            self.fails(UnknownWire("z"), call, LATE, "z", long[:12])
        self.fails(NotFailing(), shrink, LATE, "late", ())
        self.fails(NotFailing(), shrink, LATE, "late", ((1, 1), (1, 1)))
        self.fails(NotFailing(), shrink, LATE, "late", ((1, 1),) * 3 + ((1, 0),))

    def test_random_nets(self):
        source = random.Random(5)
        made = 0
        while made < 250:
            net = random_net(source, source.randrange(4), source.randrange(9), source.randrange(5))
            if not wires_of(net):
                continue
            wire = source.choice(wires_of(net))
            stimulus = random_stimulus(source, net, source.randrange(7))
            self.same(is_smallest(net, wire, stimulus), plain_smallest(net, wire, stimulus))
            if not plain_fails(net, wire, stimulus):
                self.fails(NotFailing(), shrink, net, wire, stimulus)
                continue
            made += 1
            found = shrink(net, wire, stimulus)
            self.assertTrue(plain_smallest(net, wire, found))
            self.same(is_smallest(net, wire, found), True)
            self.same(is_below(found, stimulus), True)
            self.same(shrink(net, wire, found), found)
            least = failing_run(net, wire)
            if len(least) <= 12:
                self.same(shrink(net, wire, least), least)

    def test_where_earlier_ticks_matter(self):
        # A flag behind `a`, then `b` at the next tick, then anything, then both.
        free = (("a", "b"), (), (), ())
        joined = attach(free, parse_pattern("[a] ; [b] ; []* ; [a b]"), "w")
        a, b, none, both = (1, 0), (0, 1), (0, 0), (1, 1)
        for stimulus, due in [((a, b, none, both), (a, b, both)), ((a, b, none, none, both), (a, b, both)),
                              ((none, both, a, both, both, none, both), None), ((a, b, both), (a, b, both))]:
            self.same(is_smallest(joined, "w.flag", stimulus), plain_smallest(joined, "w.flag", stimulus))
            found = shrink(joined, "w.flag", stimulus)
            self.same(found, due or (a, b, both))

    def test_flags(self):
        source = random.Random(9)
        free = (("a", "b"), (("x", "or", ("a", "r")),), (("r", 0, "b"),), ())
        failing = 0
        for _ in range(150):
            node = random_pattern(source, source.randrange(3, 9), ("a", "b", "x"))
            try:
                joined = attach(free, node, "w", from_start=source.randrange(2) == 0)
            except TooLarge:
                continue
            for _ in range(6):
                stimulus = random_stimulus(source, free, source.randrange(3, 7))
                self.same(is_smallest(joined, "w.flag", stimulus), plain_smallest(joined, "w.flag", stimulus))
                if plain_fails(joined, "w.flag", stimulus):
                    failing += 1
                    found = shrink(joined, "w.flag", stimulus)
                    self.assertTrue(plain_smallest(joined, "w.flag", found))
                    self.same(is_below(found, stimulus), True)
        self.assertGreater(failing, 100)

    def test_a_large_net(self):
        net = wide_net(gates=1000, regs=50)
        stimulus = ((1,) * 300,) * 12
        wire = next(wire for wire in ("g0", "g1", "g2", "g3") if plain_last(net, wire, stimulus))
        found = shrink(net, wire, stimulus)
        self.same(is_smallest(net, wire, found), True)
        self.same(is_below(found, stimulus), True)


def plain_last(net, wire, stimulus):
    """The value of the wire at the last tick of a wide net, whose gates stand the other way round."""
    state = tuple(reg[1] for reg in net[2])
    for row in stimulus:
        known = dict(zip(net[0], row))
        known.update(zip((reg[0] for reg in net[2]), state))
        for gate, _, (one, other) in net[1][::-1]:
            known[gate] = known[one] ^ known[other]
        state = tuple(known[reg[2]] for reg in net[2])
    return known[wire]


class CoverageTest(CheckCase):
    def check_coverage(self, found, due):
        seen, missing, visited = due
        self.assertIsInstance(found, Coverage)
        self.same(found.seen, seen)
        self.same(found.missing, missing)
        self.same(found.visited, visited)
        self.same(len(found), len(seen))
        for pair in seen:
            self.same(pair in found, True)
        for pair in missing:
            self.same(pair in found, False)

    def test_no_run_and_the_empty_stimulus(self):
        pairs = tuple((wire, bit) for wire in wires_of(COUNTER) for bit in (0, 1))
        self.check_coverage(coverage(COUNTER, ()), ((), pairs, ()))
        self.check_coverage(coverage(COUNTER, ((),)), ((), pairs, ((0, 0),)))
        self.check_coverage(coverage(EMPTY, ()), ((), (), ()))
        self.check_coverage(coverage(EMPTY, ((), (NONE,))), ((), (), ((),)))

    def test_some(self):
        found = coverage(COUNTER, (((1,), (1,)), ((0,),)))
        self.same(found.visited, ((0, 0), (1, 0), (0, 1)))
        self.same(found.missing, (("r1", 1),))
        self.same(found.seen[:3], (("up", 0), ("up", 1), ("hi", 0)))
        shift = (("a", "b"), (), (("r", 1, "a"), ("s", 1, "b")), ())
        self.same(coverage(shift, (((1, 0), (0, 1), (0, 0)),)).visited, ((0, 0), (1, 0), (0, 1), (1, 1)))

    def test_random_nets(self):
        source = random.Random(6)
        for _ in range(120):
            net = random_net(source, source.randrange(4), source.randrange(9), source.randrange(5))
            stimuli = tuple(random_stimulus(source, net, source.randrange(6)) for _ in range(source.randrange(5)))
            self.check_coverage(coverage(net, stimuli), plain_coverage(net, stimuli))

    def test_twelve_long_stimuli(self):
        source = random.Random(7)
        net = random_net(source, 6, 40, 8)
        stimuli = tuple(random_stimulus(source, net, 300 - at) for at in range(12))
        self.check_coverage(coverage(net, stimuli), plain_coverage(net, stimuli))
        wide = wide_net(gates=1500, regs=120)
        found = coverage(wide, (((0, 1) * 150,) * 300,) * 12)
        self.assertLessEqual(len(found.visited), 301)
        self.assertEqual(len(found) + len(found.missing), 2 * len(wires_of(wide)))

    def test_errors(self):
        self.fails(BadNet("unknown", "q"), coverage, FAULT, (((7,),),))
        self.fails(BadNet("ring", "x"), coverage, RING, ())
        self.fails(BadRow((7,)), coverage, COUNTER, (((1,),), ((1,), (7,), (8,)), ((9,),)))
        self.fails(TooLarge("ticks", 300), coverage, COUNTER, (((1,),) * 301, ((7,),)))
        self.fails(BadRow((7,)), coverage, COUNTER, (((1,),) * 301 + ((7,),),))
        self.fails(BadRow((7,)), coverage, COUNTER, (((1,),), ((7,),), ((1,),) * 301))

    def test_contains(self):
        found = coverage(COUNTER, (((1,),),))
        for pair, due in ((("up", 1), True), (("up", 0), False), (("r0", 0), True), (("r0", 2), False), (("r0", -1), False),
                          (("q", 0), False), (("", 1), False), (("up", 10 ** 99), False)):
            self.same(pair in found, due)

    def test_or(self):
        source = random.Random(8)
        for _ in range(60):
            net = random_net(source, source.randrange(1, 3), source.randrange(6), source.randrange(4))
            stimuli = tuple(random_stimulus(source, net, source.randrange(4)) for _ in range(4))
            left, right = coverage(net, stimuli[:2]), coverage(net, stimuli[2:])
            due = plain_coverage(net, stimuli[:2]), plain_coverage(net, stimuli[2:])
            self.check_coverage(left | right, plain_coverage(net, stimuli))
            self.check_coverage(right | left, plain_coverage(net, stimuli))
            self.check_coverage(left, due[0])
            self.check_coverage(right, due[1])
            self.same(left | left == left, True)
            self.same(coverage(net, ()) | left == left, True)
            self.check_coverage(left | right | coverage(net, stimuli), plain_coverage(net, stimuli))

    def test_or_of_other_nets(self):
        # The same wires and registers: nothing else is compared.
        first = (("a",), (("g", "not", ("a",)),), (("r", 0, "g"),), ("g",))
        second = (("a",), (("g", "buf", ("a",)),), (("r", 1, "a"),), ())
        both = coverage(first, (((1,),),)) | coverage(second, (((1,),),))
        self.same(both.seen, (("a", 1), ("g", 0), ("g", 1), ("r", 0), ("r", 1)))
        self.same(both.visited, ((0,), (1,)))
        other_wires = coverage((("b",), (("g", "not", ("b",)),), (("r", 0, "g"),), ()), ())
        # The same declared wires, but a register that was a gate.
        gate_less = coverage((("a",), (), (("g", 0, "a"), ("r", 0, "g")), ()), ())
        all_inputs = coverage((("a", "g", "r"), (), (), ()), ())
        mine = coverage(first, (((1,),),))
        for one, other in ((mine, other_wires), (other_wires, mine), (gate_less, other_wires)):
            with self.assertRaises(Mismatch) as caught:
                one | other
            self.assertEqual(caught.exception.what, "wires")
        for one, other in ((mine, gate_less), (gate_less, mine), (mine, all_inputs), (all_inputs, gate_less)):
            with self.assertRaises(Mismatch) as caught:
                one | other
            self.assertEqual(caught.exception.what, "regs")
        # The same wires in another order.
        turned = coverage((("a",), (("r", "not", ("a",)),), (("g", 0, "r"),), ()), ())
        with self.assertRaises(Mismatch) as caught:
            mine | turned
        self.assertEqual(caught.exception.what, "wires")

    def test_equality(self):
        stimuli = (((1,), (0,)),)
        one, other = coverage(COUNTER, stimuli), coverage(COUNTER, stimuli)
        self.same(one == other, True)
        self.same(one != other, False)
        more = coverage(COUNTER, stimuli + (((1,), (1,)),))
        self.same(one == more, False)
        self.same(one != more, True)
        self.same(coverage(COUNTER, ()) == coverage(COUNTER, ((),)), False)
        # Only what is seen, missing and visited is compared.
        gates = coverage((("a",), (("g", "not", ("a",)),), (), ()), (((1,),),))
        inputs = coverage((("a", "g"), (), (), ()), (((1, 0),),))
        self.same(gates == inputs, True)
        self.same(gates != inputs, False)
        empty_state = coverage((("a",), (), (), ()), (((0,),),))
        with_reg = coverage(((), (), (("a", 0, "a"),), ()), ((NONE,),))
        self.same(empty_state == with_reg, False)
        for value in (None, 0, (), "", one.seen, (one.seen, one.missing, one.visited), [one]):
            self.same(one == value, False)
            self.same(one != value, True)
            self.same(value == one, False)
        # The same pairs are seen, but others are missing.
        few = coverage((("a",), (), (), ()), ())
        many = coverage((("a", "b"), (), (), ()), ())
        self.same(few == many, False)


if __name__ == "__main__":
    unittest.main()

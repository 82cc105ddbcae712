"""Points 63 to 65, and what the interface says of moving.py."""

import random
import unittest

from checks import CheckCase
from samples import (COUNTER, COUNTS, EMPTY, FAULT, FAULT_AND_RING, OPS, RING, plain_run, random_net,
                     random_stimulus, rows_of, wide_net, wires_of)
from wirewatch.errors import BadMove, BadName, BadNet, NameTaken, UnknownWire
from wirewatch.moving import apply_moves, find_moves, move_back, move_forward
from wirewatch.order import check_sound

NOT_NET = ((), (("x", "not", ("r",)),), (("r", 0, "x"),), ("x",))
# Gates over registers, over one register twice, over a register and an input, over nothing.
MANY = (
    ("a",),
    (("both", "and", ("r", "s")), ("twice", "xor", ("r", "r")), ("mixed", "or", ("r", "a")),
     ("none", "one", ()), ("over", "not", ("both",)), ("m", "mux", ("s", "r", "t"))),
    (("r", 1, "a"), ("s", 1, "none"), ("t", 0, "both"), ("u", 1, "t"), ("v", 0, "twice"), ("w", 1, "m")),
    ("both", "w", "r"),
)


def moves_of(net):
    """All pairs of a direction and a wire for which a move is possible."""
    regs = [reg[0] for reg in net[2]]
    gates = {gate[0]: gate for gate in net[1]}
    forward = [("forward", gate[0]) for gate in net[1]
               if gate[2] and all(arg in regs for arg in gate[2])]
    return tuple(forward + [("back", reg[0]) for reg in net[2] if reg[2] in gates and gates[reg[2]][2]])


class FindTest(CheckCase):
    def test_find_moves(self):
        self.same(find_moves(EMPTY), ())
        self.same(find_moves(NOT_NET), (("forward", "x"), ("back", "r")))
        self.same(find_moves(COUNTER), (("back", "r0"), ("back", "r1")))
        self.same(find_moves(MANY), (("forward", "both"), ("forward", "twice"), ("forward", "m"),
                                     ("back", "t"), ("back", "v"), ("back", "w")))
        source = random.Random(1)
        for _ in range(100):
            net = random_net(source, source.randrange(3), source.randrange(10), source.randrange(6))
            self.same(find_moves(net), moves_of(net))

    def test_nets_that_are_not_sound(self):
        self.fails(BadNet("unknown", "q"), find_moves, FAULT)
        self.fails(BadNet("ring", "x"), find_moves, RING)
        self.fails(BadNet("twice", "x"), find_moves, FAULT_AND_RING)

    def test_what_is_found_is_what_is_possible(self):
        source = random.Random(2)
        for _ in range(60):
            net = random_net(source, source.randrange(3), source.randrange(10), source.randrange(6))
            found = find_moves(net)
            for wire in wires_of(net):
                for direction, call in (("forward", move_forward), ("back", move_back)):
                    if (direction, wire) in found:
                        check_sound(call(net, wire, "new"))
                    else:
                        self.fails(BadMove(wire), call, net, wire, "new")


class ForwardTest(CheckCase):
    def test_example(self):
        self.same(move_forward(NOT_NET, "x", "n"),
                  ((), (("n", "not", ("x",)),), (("r", 0, "x"), ("x", 1, "n")), ("x",)))

    def test_some(self):
        self.same(move_forward(MANY, "both", "n"), (
            ("a",), MANY[1][1:] + (("n", "and", ("a", "none")),), MANY[2] + (("both", 1, "n"),), MANY[3]))
        self.same(move_forward(MANY, "twice", "n"), (
            ("a",), MANY[1][:1] + MANY[1][2:] + (("n", "xor", ("a", "a")),), MANY[2] + (("twice", 0, "n"),), MANY[3]))
        self.same(move_forward(MANY, "m", "n1"), (
            ("a",), MANY[1][:-1] + (("n1", "mux", ("none", "a", "both")),), MANY[2] + (("m", 0, "n1"),), MANY[3]))
        # The source of an old register can be the gate itself, or another old register.
        net = ((), (("g", "xor", ("r", "s")),), (("r", 1, "g"), ("s", 0, "r")), ("g",))
        self.same(move_forward(net, "g", "n"),
                  ((), (("n", "xor", ("g", "r")),), (("r", 1, "g"), ("s", 0, "r"), ("g", 1, "n")), ("g",)))

    def test_first_values(self):
        for op in ("buf", "not", "and", "or", "xor", "mux"):
            for bits in rows_of(COUNTS[op]):
                regs = tuple((f"r{at}", bit, "a") for at, bit in enumerate(bits))
                args = tuple(reg[0] for reg in regs)
                net = (("a",), (("g", op, args),), regs, ())
                self.same(move_forward(net, "g", "n"), (
                    ("a",), (("n", op, ("a",) * len(bits)),), regs + (("g", OPS[op](*bits), "n"),), ()))

    def test_errors(self):
        self.fails(UnknownWire("z"), move_forward, MANY, "z", "n")
        for wire in ("a", "r", "mixed", "none", "over"):
            self.fails(BadMove(wire), move_forward, MANY, wire, "n")
            self.fails(BadMove(wire), move_forward, MANY, wire, "r")
        for name in ("a", "both", "none", "r", "w"):
            self.fails(NameTaken(name), move_forward, MANY, "both", name)
        self.fails(NameTaken("u1"), move_forward, (("u1.x",),) + NOT_NET[1:], "x", "u1")


class BackTest(CheckCase):
    def test_some(self):
        self.same(move_back(NOT_NET, "r", "n"), (
            (), (("x", "not", ("r",)), ("r", "not", ("n.r0",))), (("n.r0", 1, "r"),), ("x",)))
        self.same(move_back(MANY, "t", "n"), (
            ("a",), MANY[1] + (("t", "and", ("n.r0", "n.r1")),),
            MANY[2][:2] + MANY[2][3:] + (("n.r0", 0, "r"), ("n.r1", 0, "s")), MANY[3]))
        # An argument that occurs twice gives two registers.
        self.same(move_back(MANY, "v", "n"), (
            ("a",), MANY[1] + (("v", "xor", ("n.r0", "n.r1")),),
            MANY[2][:4] + MANY[2][5:] + (("n.r0", 0, "r"), ("n.r1", 0, "r")), MANY[3]))
        self.same(move_back(COUNTER, "r1", "n"), (
            ("up",), COUNTER[1] + (("r1", "xor", ("n.r0", "n.r1")),),
            (("r0", 0, "lo"), ("n.r0", 0, "r1"), ("n.r1", 0, "carry")), COUNTER[3]))

    def test_first_values(self):
        due = {("buf", 0): (0,), ("buf", 1): (1,), ("not", 0): (1,), ("not", 1): (0,),
               ("and", 0): (0, 0), ("and", 1): (1, 1), ("or", 0): (0, 0), ("or", 1): (1, 0),
               ("xor", 0): (0, 0), ("xor", 1): (1, 0), ("mux", 0): (0, 0, 0), ("mux", 1): (0, 1, 0)}
        for (op, first), bits in due.items():
            args = ("a", "b", "c")[:COUNTS[op]]
            net = (("a", "b", "c"), (("g", op, args),), (("r", first, "g"),), ("r",))
            new_regs = tuple((f"n.r{at}", bits[at], args[at]) for at in range(len(args)))
            self.same(move_back(net, "r", "n"), (
                ("a", "b", "c"), (("g", op, args), ("r", op, tuple(reg[0] for reg in new_regs))), new_regs, ("r",)))

    def test_errors(self):
        self.fails(UnknownWire("z"), move_back, MANY, "z", "n")
        # An input, gates, and registers whose sources are an input, a gate without arguments, a register.
        for wire in ("a", "both", "over", "r", "s", "u"):
            self.fails(BadMove(wire), move_back, MANY, wire, "n")
            self.fails(BadMove(wire), move_back, MANY, wire, "r")
        for name in ("a", "both", "none", "r", "t"):
            self.fails(NameTaken(name), move_back, MANY, "t", name)
        self.fails(NameTaken("u1"), move_back, (("u1.x",),) + NOT_NET[1:], "r", "u1")


class BothTest(CheckCase):
    def test_order_of_errors(self):
        for call in (move_forward, move_back):
            self.fails(BadNet("unknown", "q"), call, FAULT, "z", "N")
            self.fails(BadNet("ring", "x"), call, RING, "z", "N")
            self.fails(BadNet("twice", "x"), call, FAULT_AND_RING, "z", "N")
            for name in ("N", "", "n.r0", "1n", "toolong1n"):
                self.fails(BadName(name), call, MANY, "z", name)
                self.fails(BadName(name), call, MANY, "a", name)
            self.fails(UnknownWire("z"), call, MANY, "z", "r")
            self.fails(BadMove("a"), call, MANY, "a", "r")

    def test_runs_stay(self):
        source = random.Random(3)
        made = 0
        while made < 200:
            net = random_net(source, source.randrange(3), source.randrange(10), source.randrange(1, 6))
            moves = find_moves(net)
            if not moves:
                continue
            made += 1
            direction, wire = source.choice(moves)
            new_net = (move_forward if direction == "forward" else move_back)(net, wire, "new")
            check_sound(new_net)
            self.same(new_net[0], net[0])
            self.same(new_net[3], net[3])
            stimulus = random_stimulus(source, net, 8)
            for old, new in zip(plain_run(net, stimulus)[0], plain_run(new_net, stimulus)[0]):
                self.assertEqual(old, {wire: new[wire] for wire in old})

    def test_apply_moves(self):
        self.same(apply_moves(NOT_NET, ()), NOT_NET)
        self.fails(BadNet("unknown", "q"), apply_moves, FAULT, ())
        self.fails(BadNet("ring", "x"), apply_moves, RING, ())
        self.fails(BadNet("ring", "x"), apply_moves, RING, (("forward", "z", "N"),))
        first = move_forward(MANY, "both", "n")
        self.same(apply_moves(MANY, (("forward", "both", "n"),)), first)
        self.same(apply_moves(MANY, (("forward", "both", "n"), ("back", "both", "m1"))),
                  move_back(first, "both", "m1"))
        # `over` can be moved once `both` is a register.
        self.fails(BadMove("over"), apply_moves, MANY, (("forward", "over", "n"),))
        self.same(apply_moves(MANY, (("forward", "both", "n"), ("forward", "over", "o"))),
                  move_forward(first, "over", "o"))

    def test_second_moves_that_fail(self):
        first = ("forward", "both", "n")
        self.fails(BadMove("both"), apply_moves, MANY, (first, ("forward", "both", "o")))
        self.fails(NameTaken("n"), apply_moves, MANY, (first, ("forward", "twice", "n")))
        self.fails(NameTaken("n"), apply_moves, MANY, (("back", "t", "n"), ("back", "v", "n")))
        self.fails(UnknownWire("z"), apply_moves, MANY, (first, ("back", "z", "n")))
        self.fails(BadName("N"), apply_moves, MANY, (first, ("back", "z", "N")))
        self.fails(BadMove("t"), apply_moves, MANY, (("back", "t", "n"), ("back", "t", "o")))
        self.fails(BadName("N"), apply_moves, MANY, (("forward", "both", "N"), ("forward", "q", "n")))
        # A register that the first move made can be moved by the second one.
        found = apply_moves(COUNTER, (("back", "r1", "n"), ("back", "n.r1", "o")))
        self.same(found[2], (("r0", 0, "lo"), ("n.r0", 0, "r1"), ("o.r0", 0, "up"), ("o.r1", 0, "r0")))

    def test_many_moves(self):
        source = random.Random(4)
        for _ in range(30):
            net = random_net(source, 2, 8, 4)
            moves, now = [], net
            for number in range(12):
                possible = find_moves(now)
                if not possible:
                    break
                direction, wire = source.choice(possible)
                moves.append((direction, wire, f"m{number}"))
                now = (move_forward if direction == "forward" else move_back)(now, wire, f"m{number}")
            self.same(apply_moves(net, tuple(moves)), now)
            stimulus = random_stimulus(source, net, 10)
            for old, new in zip(plain_run(net, stimulus)[0], plain_run(now, stimulus)[0]):
                self.assertEqual(old, {wire: new[wire] for wire in old})

    def test_many_moves_over_a_large_net(self):
        net = wide_net(gates=1900, regs=100)
        moves = tuple(("back", f"r{at}", f"m{at}") for at in range(50))
        self.assertEqual(len(apply_moves(net, moves)[2]), 150)


if __name__ == "__main__":
    unittest.main()

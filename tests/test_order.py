"""order.py: orders, rings and depths (points 15 and 23 to 25)."""

import itertools
import random
import unittest

from checks import CheckCase
from wirewatch.errors import BadNet
from wirewatch.nets import net_fault
from wirewatch.order import check_sound, depths, find_order, find_ring, is_order, is_ring

OPS = {0: "one", 1: "not", 2: "and", 3: "mux"}


def net_of(args, inputs=("a",), regs=(("r", 0, "a"),)):
    """A net with a gate for each item of the dict, from a wire to its arguments."""
    gates = tuple((wire, OPS[len(found)], tuple(found)) for wire, found in args.items())
    return inputs, gates, regs, ()


def chain(length, step=1):
    """A chain of gates, each with the one before it as its argument, forward or backward."""
    args = {f"g{at}": (f"g{at - 1}",) if at else ("a",) for at in range(length)}
    return net_of(dict(list(args.items())[::step]))


def links_of(net):
    names = [gate[0] for gate in net[1]]
    return {wire: [arg for arg in args if arg in names] for wire, _, args in net[1]}


def reaches(links, start, end):
    """True if one or more links lead from start to end."""
    seen = set()
    left = list(links[start])
    while left:
        wire = left.pop()
        if wire not in seen:
            seen.add(wire)
            left += links[wire]
    return end in seen


def first_in_ring(net):
    links = links_of(net)
    return next((wire for wire in links if reaches(links, wire, wire)), None)


def order_is_right(net, order):
    links = links_of(net)
    if len(order) != len(links) or set(order) != set(links):
        return False
    return all(order.index(arg) < order.index(wire) for wire in links for arg in links[wire])


def ring_is_right(net, ring):
    args = {gate[0]: gate[2] for gate in net[1]}
    if not ring or len(set(ring)) != len(ring) or any(wire not in args for wire in ring):
        return False
    if any(after not in args[before] for before, after in zip(ring, ring[1:])):
        return False
    return ring[0] in args[ring[-1]]


def random_net(source, size):
    names = [f"g{at}" for at in range(size)]
    pool = names + ["a", "r"] * source.randrange(1, 4)
    args = {name: tuple(source.choice(pool) for _ in range(source.randrange(4))) for name in names}
    return net_of(args)


SOUND = [
    ((), (), (), ()),
    (("a",), (), (("r", 1, "r"),), ("a",)),
    net_of({"x": ("a",), "y": ("x", "r"), "z": ("y", "x", "a")}),
    net_of({"z": ("y", "x", "a"), "y": ("x", "r"), "x": ("a",)}),
    net_of({"x": (), "y": ()}),
    net_of({"x": ("r",)}, regs=(("r", 0, "x"),)),
    net_of({"x": ("y", "y"), "y": ("a", "a")}),
]

# Nets with a ring, and the wire that point 24 tells.
RINGS = [
    (net_of({"x": ("x",)}), "x"),
    (net_of({"x": ("a",), "y": ("y", "a")}), "y"),
    (net_of({"x": ("y",), "y": ("x",)}), "x"),
    (net_of({"x": ("a", "y", "z"), "y": ("r",), "z": ("y", "x")}), "x"),
    (net_of({"u": ("v",), "v": ("w",), "w": ("a", "x"), "x": ("u",)}), "u"),
    # Two rings.
    (net_of({"x": ("x",), "y": ("y",)}), "x"),
    (net_of({"w": ("x",), "y": ("z",), "x": ("w",), "z": ("y",)}), "w"),
    # A gate that depends on a ring does not stand in it.
    (net_of({"w": ("x",), "x": ("y",), "y": ("x",)}), "x"),
    (net_of({"v": ("w",), "w": ("x", "a"), "x": ("x",)}), "x"),
    # Neither does a gate on which a ring depends.
    (net_of({"w": ("a",), "x": ("y", "w"), "y": ("x",)}), "x"),
    # A gate that lies between two rings.
    (net_of({"m": ("x",), "x": ("x",), "y": ("y", "m")}), "x"),
    (net_of({"m": ("x",), "y": ("m", "z"), "x": ("x",), "z": ("y",)}), "y"),
    (net_of({"m": ("n",), "n": ("x",), "y": ("m", "z"), "z": ("y",), "x": ("x",)}), "y"),
    # A figure of eight, and a ring with a short cut.
    (net_of({"z": ("y",), "y": ("x", "z"), "x": ("y",)}), "z"),
    (net_of({"s": ("t", "v"), "t": ("u",), "u": ("v",), "v": ("s",)}), "s"),
]

# A net may have a fault and a ring at once: the fault counts.
FAULTY = [
    (net_of({"x": ("x", "q")}), ("unknown", "q")),
    (net_of({"x": ("x",)}, inputs=("A",)), ("name", "A")),
    (net_of({"x": ("x",)}, regs=(("r", 2, "x"),)), ("first", "r")),
    (net_of({"x": ("x",)}, inputs=("x",)), ("twice", "x")),
    ((("a",), (("x", "nor", ("x",)),), (), ()), ("op", "x")),
    ((("a",), (("x", "buf", ("x", "x")),), (), ()), ("count", "x")),
    ((("a",), (("x", "buf", ("x",)),), (), ("x", "x")), ("twice", "x")),
]


class SoundTest(CheckCase):
    def check_sound_net(self, net):
        self.same(check_sound(net), None)
        self.assertTrue(order_is_right(net, find_order(net)))
        self.assertIs(type(find_order(net)), tuple)
        self.same(is_order(net, find_order(net)), True)
        self.same(find_ring(net), None)

    def check_ring_net(self, net, wire):
        error = BadNet("ring", wire)
        self.same(net_fault(net), None)
        self.fails(error, check_sound, net)
        self.fails(error, find_order, net)
        self.fails(error, depths, net)
        ring = find_ring(net)
        self.assertIs(type(ring), tuple)
        self.assertTrue(ring_is_right(net, ring))
        self.same(is_ring(net, ring), True)
        self.same(is_order(net, tuple(gate[0] for gate in net[1])), False)

    def test_sound_nets(self):
        for net in SOUND:
            with self.subTest(net):
                self.check_sound_net(net)

    def test_nets_with_rings(self):
        for net, wire in RINGS:
            with self.subTest(net):
                self.assertEqual(first_in_ring(net), wire)
                self.check_ring_net(net, wire)

    def test_many_nets(self):
        source = random.Random(7)
        kinds = set()
        for _ in range(1500):
            net = random_net(source, source.randrange(9))
            wire = first_in_ring(net)
            kinds.add(wire)
            if wire is None:
                self.check_sound_net(net)
            else:
                self.check_ring_net(net, wire)
        self.assertLess({None, "g0", "g1", "g2"}, kinds)

    def test_faults_come_before_rings(self):
        for net, fault in FAULTY:
            with self.subTest(net):
                error = BadNet(*fault)
                self.fails(error, check_sound, net)
                self.fails(error, find_order, net)
                self.fails(error, depths, net)
                self.fails(error, find_ring, net)
                self.fails(error, is_order, net, ("x",))
                self.fails(error, is_ring, net, ("x",))

    def test_asked_twice(self):
        net = SOUND[2]
        self.same(find_order(net), find_order(net))
        for ring_net, _ in RINGS:
            self.same(find_ring(ring_net), find_ring(ring_net))
        first = depths(net)
        due = dict(first)
        first["x"] = 99
        first["more"] = 1
        del first["a"]
        self.same(depths(net), due)
        before = repr(net)
        is_order(net, ("x", "y", "z"))
        is_ring(net, ("x", "y", "z"))
        self.assertEqual(repr(net), before)


class IsOrderTest(CheckCase):
    def test_all_orders_of_small_nets(self):
        source = random.Random(3)
        for _ in range(60):
            net = random_net(source, 4)
            names = [gate[0] for gate in net[1]]
            for order in itertools.permutations(names):
                self.same(is_order(net, order), order_is_right(net, order))

    def test_bent_at_one_place(self):
        net = net_of({"x": ("a",), "y": ("x", "r"), "z": ("y", "x", "a")})
        self.same(is_order(net, ("x", "y", "z")), True)
        for order in ((), ("x", "y"), ("y", "z"), ("x", "z"), ("x", "y", "z", "z"),
                      ("x", "x", "y", "z"), ("x", "x", "z"), ("a", "x", "y", "z"),
                      ("x", "y", "r"), ("x", "y", "q"), ("x", "y", ""), ("x", "y", "z", "r"),
                      ("z", "y", "x"), ("y", "x", "z"), ("x", "z", "y"), ("x", "y", "Z")):
            self.same(is_order(net, order), False)

    def test_no_gates(self):
        for net in SOUND[:2]:
            self.same(is_order(net, ()), True)
            self.same(find_order(net), ())
            self.same(is_order(net, ("a",)), False)


class IsRingTest(CheckCase):
    def test_all_tuples_of_small_nets(self):
        source = random.Random(5)
        for _ in range(60):
            net = random_net(source, 4)
            names = ("g0", "g1", "g2", "g3", "a", "q")
            for length in range(4):
                for ring in itertools.product(names, repeat=length):
                    self.same(is_ring(net, ring), ring_is_right(net, ring))
            for ring in itertools.permutations(names[:4]):
                self.same(is_ring(net, ring), ring_is_right(net, ring))

    def test_bent_at_one_place(self):
        net = net_of({"u": ("v",), "v": ("w", "v"), "w": ("a", "x"), "x": ("u",)})
        for ring in (("u", "v", "w", "x"), ("x", "u", "v", "w"), ("v", "w", "x", "u"), ("v",)):
            self.same(is_ring(net, ring), True)
        for ring in ((), ("u",), ("u", "v", "w"), ("v", "w", "x"), ("x", "w", "v", "u"),
                     ("u", "v", "v", "w", "x"), ("u", "v", "w", "x", "u"), ("v", "v"),
                     ("u", "w", "v", "x"), ("u", "v", "w", "a"), ("a",), ("r",), ("q",), ("",),
                     ("u", "v", "w", "q"), ("u", "v", "w", "x", "u", "v", "w", "x")):
            self.same(is_ring(net, ring), False)

    def test_a_loop_through_a_register_is_no_ring(self):
        net = net_of({"x": ("r",)}, regs=(("r", 0, "x"),))
        for ring in (("x",), ("r",), ("x", "r"), ("r", "x")):
            self.same(is_ring(net, ring), False)

    def test_sound_nets_have_none(self):
        for net in SOUND:
            self.same(is_ring(net, tuple(gate[0] for gate in net[1])), False)
            self.same(is_ring(net, ()), False)


class DepthsTest(CheckCase):
    def test_depths(self):
        net = net_of({"z": ("y", "x", "a"), "y": ("x", "r"), "x": ("a",), "k": (), "l": ("k",),
                      "m": ("k", "z")})
        self.same(depths(net), {"a": 0, "r": 0, "x": 1, "y": 2, "z": 3, "k": 1, "l": 2, "m": 4})
        self.same(depths(((), (), (), ())), {})
        self.same(depths((("a", "b"), (), (("r", 0, "b"),), ("r",))), {"a": 0, "b": 0, "r": 0})

    def test_many_nets(self):
        source = random.Random(11)
        for _ in range(300):
            net = random_net(source, source.randrange(7))
            if first_in_ring(net) is None:
                found = depths(net)
                self.assertEqual(set(found), {"a", "r"} | {gate[0] for gate in net[1]})
                self.same((found["a"], found["r"]), (0, 0))
                for wire, _, args in net[1]:
                    self.same(found[wire], 1 + max((found[arg] for arg in args), default=0))


class ChainsTest(CheckCase):
    def shuffled(self, net):
        gates = list(net[1])
        random.Random(1).shuffle(gates)
        return net[0], tuple(gates), net[2], net[3]

    def test_chains(self):
        for length in (60, 2000):
            for net in (chain(length), chain(length, -1), self.shuffled(chain(length))):
                due = tuple(f"g{at}" for at in range(length))
                self.same(find_order(net), due)
                self.same(is_order(net, due), True)
                self.same(is_order(net, due[::-1]), False)
                self.same(find_ring(net), None)
                found = depths(net)
                self.same([found[wire] for wire in due], list(range(1, length + 1)))

    def test_long_rings(self):
        for length in (60, 2000):
            for step in (1, -1):
                net = chain(length, step)
                last = (f"g{length - 1}",)
                gates = tuple((wire, op, last if args == ("a",) else args)
                              for wire, op, args in net[1])
                net = (net[0], gates, net[2], net[3])
                self.fails(BadNet("ring", gates[0][0]), check_sound, net)
                ring = find_ring(net)
                self.same(len(ring), length)
                self.same(is_ring(net, ring), True)
                self.same(is_ring(net, ring[::-1]), False)

    def test_a_long_chain_between_two_rings(self):
        args = {f"g{at}": (f"g{at - 1}",) if at else ("x",) for at in range(1900)}
        net = net_of({**args, "y": ("y", "g1899"), "x": ("x", "a")})
        self.fails(BadNet("ring", "y"), find_order, net)
        self.same(find_ring(net), ("y",))


if __name__ == "__main__":
    unittest.main()

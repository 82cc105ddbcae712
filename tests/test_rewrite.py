"""rewrite.py: chains and rewriting (point 34)."""

import copy
import random
import unittest

import plain_steps
import samples
from checks import CheckCase
from samples import COUNTER, EMPTY, FAULT, FAULT_AND_RING, RING
from wirewatch.errors import BadIndex, BadNet, BadStep
from wirewatch.logic import difference
from wirewatch.rewrite import apply_chain, is_chain, is_settled, rewrite, trail
from wirewatch.steps import apply_step, price, steps

EXAMPLE = (("a",), (("x", "and", ("a", "a")), ("y", "not", ("x",))), (), ("y",))
SHORT = (("a",), (("y", "not", ("a",)),), (), ("y",))
CHAIN = (("pass", "x"), ("skip", "y"), ("drop", "x"))
SETTLED = (("a", "b"), (("x", "and", ("a", "b")),), (("r", 0, "x"),), ("r",))


def random_net(source):
    ops = ("zero", "one", "buf", "buf", "not", "not", "and", "or", "xor", "mux", "mux")
    return samples.random_net(source, source.randrange(4), source.randrange(1, 14),
                              source.randrange(3), source.randrange(4), ops)


class ChainTest(CheckCase):
    def test_an_example(self):
        middle = (("a",), (("x", "buf", ("a",)), ("y", "not", ("x",))), (), ("y",))
        later = (("a",), (("x", "buf", ("a",)), ("y", "not", ("a",))), (), ("y",))
        self.same(trail(EXAMPLE, CHAIN), (EXAMPLE, middle, later, SHORT))
        self.same(apply_chain(EXAMPLE, CHAIN), SHORT)
        self.same(is_chain(EXAMPLE, CHAIN, SHORT), True)
        self.same(trail(EXAMPLE, CHAIN[:1]), (EXAMPLE, middle))
        self.same(is_chain(EXAMPLE, CHAIN[:2], later), True)

    def test_the_empty_chain(self):
        for net in (EMPTY, EXAMPLE, COUNTER):
            self.same(apply_chain(net, ()), net)
            self.same(trail(net, ()), (net,))
            self.same(is_chain(net, (), net), True)
            self.same(is_chain(net, (), SETTLED), False)

    def test_a_wrong_step(self):
        for at, wrong in ((0, ("drop", "x")), (1, ("pass", "x")), (2, ("skip", "y")), (3, ("drop", "x")),
                          (1, ("", "")), (1, ("merge", "y")), (2, ("drop", "z")), (0, ("skip", "a"))):
            chain = CHAIN[:at] + (wrong,) + CHAIN[at:]
            self.fails(BadStep(*wrong), apply_chain, EXAMPLE, chain)
            self.fails(BadStep(*wrong), trail, EXAMPLE, chain)
            self.same(is_chain(EXAMPLE, chain, SHORT), False)
        # The first of two wrong steps decides.
        chain = CHAIN[:1] + (("turn", "y"), ("fold", "q"))
        self.fails(BadStep("turn", "y"), apply_chain, EXAMPLE, chain)
        self.fails(BadStep("turn", "y"), trail, EXAMPLE, chain)
        # A step applies only where the steps before it lead.
        self.fails(BadStep("skip", "y"), apply_chain, EXAMPLE, CHAIN[1:])

    def test_another_result(self):
        for result in (EXAMPLE, EMPTY, FAULT, RING, SHORT[:3] + ((),), SHORT[:3] + (("x",),),
                       (("b",),) + SHORT[1:], (("A", "A"), (), (), ()), SHORT[:2] + ((("r", 0, "a"),), ("y",)),
                       (("a",), (("y", "nor", ("a",)),), (), ("y",)), (("a",), (), (("r", 7, "q"),), ("y",))):
            self.same(is_chain(EXAMPLE, CHAIN, result), False)
        self.same(is_chain(EXAMPLE, CHAIN[:2], SHORT), False)

    def test_errors(self):
        wrong = (("merge", "z"),)
        for net, error in ((FAULT, BadNet("unknown", "q")), (RING, BadNet("ring", "x")),
                           (FAULT_AND_RING, BadNet("twice", "x"))):
            for chain in ((), wrong):
                self.fails(error, apply_chain, net, chain)
                self.fails(error, trail, net, chain)
                self.fails(error, is_chain, net, chain, net)
            self.fails(error, is_settled, net)
            self.fails(error, rewrite, net)
            self.fails(error, rewrite, net, limit=-1)


class RewriteTest(CheckCase):
    def test_an_example(self):
        self.same(rewrite(EXAMPLE), (SHORT, CHAIN))
        self.same(rewrite(SHORT), (SHORT, ()))
        self.same(rewrite(EMPTY), (EMPTY, ()))

    def test_limits(self):
        nets = trail(EXAMPLE, CHAIN)
        for limit in range(4):
            self.same(rewrite(EXAMPLE, limit=limit), (nets[limit], CHAIN[:limit]))
        for limit in (4, 400, 999, 1000):
            self.same(rewrite(EXAMPLE, limit=limit), (SHORT, CHAIN))
        for limit in (-1, 1001, -10 ** 99, 10 ** 99):
            self.fails(BadIndex(limit), rewrite, EXAMPLE, limit=limit)
            self.fails(BadIndex(limit), rewrite, SETTLED, limit=limit)

    def test_settled(self):
        self.same(is_settled(SETTLED), True)
        self.same(is_settled(SHORT), True)
        self.same(is_settled(EMPTY), True)
        self.same(is_settled(EXAMPLE), False)
        # Only a register has a step, or only the last gate.
        net = (("a",), (("x", "buf", ("a",)),), (("r", 0, "x"),), ("x",))
        self.same(is_settled(net), False)
        self.same(rewrite(net)[1], (("skip", "r"),))
        net = (("a", "b"), (("x", "and", ("a", "b")), ("y", "or", ("b", "a"))), (), ("x", "y"))
        self.same(is_settled(net), False)

    def test_many_nets(self):
        source = random.Random(1)
        for _ in range(150):
            net = random_net(source)
            before = copy.deepcopy(net)
            result, chain = rewrite(net)
            self.same((result, chain), plain_steps.plain_rewrite(net, 400))
            self.same(rewrite(net), (result, chain))
            self.same(apply_chain(net, chain), result)
            self.same(is_chain(net, chain, result), True)
            self.same(is_settled(result), True)
            self.same(difference(net, result), None)
            nets = trail(net, chain)
            self.same(len(nets), len(chain) + 1)
            for step, one, other in zip(chain, nets, nets[1:]):
                self.same(steps(one)[0], step)
                self.same(apply_step(one, step), other)
                self.same(is_settled(one), False)
                self.assertLess(price(other), price(one))
            limit = source.randrange(5)
            self.same(rewrite(net, limit=limit), plain_steps.plain_rewrite(net, limit))
            self.same(net, before)

    def test_other_chains(self):
        """Steps in any order lead to settled nets, too."""
        source = random.Random(2)
        for _ in range(60):
            net = random_net(source)
            now, chain = net, []
            while steps(now):
                chain.append(source.choice(steps(now)))
                now = apply_step(now, chain[-1])
            self.same(apply_chain(net, tuple(chain)), now)
            self.same(is_chain(net, tuple(chain), now), True)
            self.same(is_settled(now), True)

    def test_large_nets(self):
        for step in (1, -1):
            net = samples.chain(300, step)
            result, chain = rewrite(net, limit=1000)
            self.same(is_settled(result), True)
            self.same(result, (("a",), (("g299", "buf", ("a",)),), (), ("g299",)))
            self.same(is_chain(net, chain, result), True)
            self.same(len(rewrite(net)[1]), min(400, len(chain)))
        source = random.Random(3)
        net = samples.random_net(source, 4, 300, 4, 30)
        result, chain = rewrite(net, limit=1000)
        self.same(is_settled(result), True)
        self.same(difference(net, result), None)
        self.same(trail(net, chain)[-1], result)


if __name__ == "__main__":
    unittest.main()

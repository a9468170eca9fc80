"""What the tests of the judge share: a world, short names for steps, and what the judge says."""

import unittest

from showhouse.judge import judged
from showhouse.sayings import Saying
from tests.samples import A, B, C, ZERO, chain, hole, lists, of, step

D, E, F, L, M, N, R, T = [hole(name) for name in "deflmnrt"]
LEAF, NONE, YES, NO = of("leaf"), of("none"), of("yes"), of("no")
NAT_A = {"a": "nat"}
NATS = {"a": "nat", "b": "nat"}


def after(term):
    return of("next", term)


def add(one, other):
    return of("add", one, other)


def flip(term):
    return of("flip", term)


def fork(left, middle, right):
    return of("fork", left, middle, right)


def row(operator, number, place=(), way="on", **bindings):
    return step(("row", operator, number), way, place, bindings)


def saying(name, place=(), way="on", inner=(), **bindings):
    return step(("saying", name), way, place, bindings, inner)


def held(number, place=(), way="on", inner=(), **bindings):
    return step(("held", number), way, place, bindings, inner)


def given(number, place=(), way="on"):
    return step(("given", number), way, place)


def never(number):
    return ("never", number)


def by_number(word, name, zero, following, new="d"):
    """An induction or a case distinction on a hole for a number."""
    return (word, name, {"zero": ((), zero), "next": ((new,), following)})


def full_world():
    """Numbers, lists, truths and trees, with operators and sayings."""
    world = lists().with_operator("flip", ("flag",), "flag", [(flip(NO), YES), (flip(YES), NO)])
    world = world.with_kind("tree", [("leaf", ()), ("fork", ("tree", "nat", "tree"))])
    world = world.with_operator("pick", ("nat", "flag", "nat"), "nat", [
        (of("pick", A, YES, B), A), (of("pick", A, NO, B), B),
    ])
    world = world.with_saying(Saying("swap", NATS, [], add(A, B), add(B, A)))
    world = world.with_saying(Saying("cut", NATS, [(after(A), after(B))], A, B))
    return world.with_saying(Saying("trans", {"c": "nat", "a": "nat", "b": "nat"}, [(A, B), (B, C)], A, C))


def add_zero(**bindings):
    """A showing of add a zero = a by induction; the bindings are those of the other free holes."""
    return ("through", "a", {
        "zero": ((), chain(row("add", 0, b=ZERO))),
        "next": (("c",), chain(row("add", 1, a=C, b=ZERO), held(0, (0,), **bindings))),
    })


class Judging(unittest.TestCase):
    def setUp(self):
        self.world = full_world()

    def found(self, holes, givens, left, right, showing):
        """What the judge says: None, or the location and the reason."""
        slip = judged(self.world, Saying("goal", holes, givens, left, right), showing)
        return None if slip is None else (slip.where, slip.why)

    def accepted(self, holes, givens, left, right, showing):
        self.assertIsNone(self.found(holes, givens, left, right, showing))

    def slips(self, holes, givens, left, right, showing, where, why):
        self.assertEqual(self.found(holes, givens, left, right, showing), (where, why))

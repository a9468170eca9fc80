"""Evaluation of terms: [7]."""

import unittest

from showhouse.errors import BadTerm, TooMuch
from showhouse.worlds import World
from showhouse.worths import reckoned
from tests.samples import A, B, C, NO_TERMS, ZERO, hole, lists, numbers, numeral, of


def after(term):
    return of("next", term)


# Each `next` doubles the uses of rows: spin of n + 1 heads takes 2 ** (n + 1) - 1 of them.
SPIN_ROWS = [
    (of("spin", ZERO, B), B),
    (of("spin", after(A), B), of("spin", A, of("spin", A, B))),
]
DBL_ROWS = [
    (of("dbl", ZERO), ZERO),
    (of("dbl", after(A)), after(after(of("dbl", A)))),
]


def busy_world():
    """Numbers, and operators that make much work or large terms of small ones."""
    world = numbers().with_operator("spin", ("nat", "nat"), "nat", SPIN_ROWS)
    world = world.with_operator("dbl", ("nat",), "nat", DBL_ROWS)
    world = world.with_operator("drop", ("nat", "nat"), "nat", [(of("drop", A, B), B)])
    wide = of("drop", A, of("drop", A, B))
    return world.with_operator("wide", ("nat", "nat"), "nat", [(of("wide", A, B), wide)])


def spun(counts, last=ZERO):
    """The term of a spin for each count, which uses 2 ** (count + 1) - 1 rows, one within another."""
    for count in counts:
        last = of("spin", numeral(count + 1), last)
    return last


USES_2000 = (9, 8, 7, 6, 5, 3, 1, 1)


class Values(unittest.TestCase):
    def setUp(self):
        world = lists().with_operator("one", (), "nat", [(of("one"), after(ZERO))])
        world = world.with_operator("twice", ("nat",), "nat", [(of("twice", C), of("add", C, C))])
        world = world.with_operator("join", ("list", "list"), "list", [
            (of("join", of("put", hole("x"), hole("l")), hole("m")), of("put", hole("x"), of("join", hole("l"), hole("m")))),
            (of("join", of("none"), hole("m")), hole("m")),
        ])
        world = world.with_operator("both", ("nat", "flag", "nat"), "nat", [
            (of("both", A, of("yes"), B), A),
            (of("both", A, of("no"), B), B),
        ])
        self.world = world.with_operator("sum", ("list",), "nat", [
            (of("sum", of("none")), ZERO),
            (of("sum", of("put", A, hole("l"))), of("add", A, of("sum", hole("l")))),
        ])

    def check(self, term, worth):
        self.assertEqual(reckoned(self.world, term), worth)

    def test_builders(self):
        for worth in (ZERO, numeral(4), of("none"), of("put", numeral(2), of("put", ZERO, of("none"))), of("yes")):
            self.check(worth, worth)

    def test_an_operator_with_a_column(self):
        self.check(of("add", numeral(3), numeral(4)), numeral(6))
        self.check(of("add", ZERO, ZERO), ZERO)
        self.check(of("join", of("put", ZERO, of("none")), of("put", numeral(2), of("none"))),
                   of("put", ZERO, of("put", numeral(2), of("none"))))

    def test_an_operator_without_a_column(self):
        self.check(of("one"), numeral(2))
        self.check(of("twice", numeral(4)), numeral(7))

    def test_a_column_between_other_arguments(self):
        self.check(of("both", numeral(2), of("yes"), numeral(3)), numeral(2))
        self.check(of("both", numeral(2), of("no"), numeral(3)), numeral(3))

    def test_operators_that_call_others(self):
        numbers_123 = of("put", numeral(2), of("put", numeral(3), of("put", numeral(4), of("none"))))
        self.check(of("sum", numbers_123), numeral(7))

    def test_the_arguments_are_evaluated_first(self):
        self.check(of("add", of("twice", of("one")), of("add", of("one"), ZERO)), numeral(4))
        self.check(of("put", of("twice", numeral(2)), of("join", of("none"), of("none"))),
                   of("put", numeral(3), of("none")))
        self.check(of("both", of("one"), of("no"), of("sum", of("put", of("one"), of("none")))), numeral(2))

    def test_what_is_no_term(self):
        for term in NO_TERMS:
            with self.subTest(term=term), self.assertRaises(BadTerm):
                reckoned(self.world, term)
        with self.assertRaises(BadTerm):
            reckoned(self.world, numeral(61))

    def test_a_hole(self):
        for term in (A, after(A), of("add", ZERO, A), of("both", ZERO, of("yes"), A)):
            with self.subTest(term=term), self.assertRaises(BadTerm):
                reckoned(self.world, term)

    def test_no_kind(self):
        for term in (of("null"), of("next"), of("next", of("none")), of("add", ZERO), of("put", ZERO, ZERO), of("nat")):
            with self.subTest(term=term), self.assertRaises(BadTerm):
                reckoned(self.world, term)

    def test_the_world_stays_as_it_was(self):
        before = (self.world.kinds(), self.world.operators(), self.world.sayings())
        reckoned(self.world, of("twice", numeral(3)))
        with self.assertRaises(BadTerm):
            reckoned(self.world, A)
        self.assertEqual((self.world.kinds(), self.world.operators(), self.world.sayings()), before)


class Bounds(unittest.TestCase):
    def setUp(self):
        self.world = busy_world()

    def check(self, term, worth):
        self.assertEqual(reckoned(self.world, term), worth)

    def too_much(self, term):
        self.assertIsNotNone(self.world.kind_of(term, {}))
        with self.assertRaises(TooMuch):
            reckoned(self.world, term)

    def test_uses_of_rows(self):
        self.assertEqual(sum(2 ** (count + 1) - 1 for count in USES_2000), 2000)
        self.check(spun(USES_2000), ZERO)
        self.check(after(spun(USES_2000)), numeral(2))
        self.too_much(spun(USES_2000 + (0,)))
        self.too_much(of("drop", spun(USES_2000), ZERO))
        self.too_much(spun((10,)))

    def test_each_term_has_its_own_count(self):
        for _ in range(3):
            self.check(spun(USES_2000), ZERO)

    def test_a_worth_of_sixty_and_sixty_one_heads(self):
        self.check(numeral(60), numeral(60))
        self.check(after(of("dbl", numeral(30))), numeral(60))
        self.too_much(after(after(of("dbl", numeral(30)))))
        self.too_much(of("dbl", numeral(31)))

    def test_a_large_worth_that_is_only_an_argument(self):
        self.check(of("drop", after(of("dbl", numeral(30))), ZERO), ZERO)
        self.too_much(of("drop", after(after(of("dbl", numeral(30)))), ZERO))

    def test_a_large_right_term_of_a_small_worth(self):
        # The right term has two heads, twice the first worth, and the second one.
        self.check(of("wide", numeral(28), numeral(2)), numeral(2))
        self.too_much(of("wide", numeral(28), numeral(3)))
        self.too_much(of("wide", numeral(29), ZERO))
        # What the worths are counts, not what they are the worths of.
        self.check(of("wide", of("drop", numeral(30), numeral(2)), numeral(2)), numeral(2))
        self.too_much(of("wide", of("dbl", numeral(20)), ZERO))

    def test_holes_that_the_right_term_does_not_have(self):
        self.check(of("drop", numeral(50), numeral(8)), numeral(8))

    def test_a_bad_term_ahead_of_too_much(self):
        for term in (
            of("drop", spun(USES_2000), A), of("drop", spun(USES_2000), of("null")), of("add", spun((10,)), A),
            of("next", of("dbl", numeral(31)), ZERO), of("drop", of("dbl", numeral(31)), A),
        ):
            with self.subTest(term=term), self.assertRaises(BadTerm):
                reckoned(self.world, term)

    def test_uses_that_nest_deeper_than_calls(self):
        world = numbers().with_operator("keep", ("nat",), "nat", [(of("keep", A), A)])
        name = "keep"
        for letter in "abcdefghijklmnopqrstuvwxyz":
            right = of(name, A)
            for _ in range(50):
                right = of("keep", right)
            name = "op" + letter
            world = world.with_operator(name, ("nat",), "nat", [(of(name, A), right)])
        self.assertEqual(reckoned(world, of(name, numeral(3))), numeral(3))


class Worlds(unittest.TestCase):
    def test_an_operator_that_takes_and_gives_several_kinds(self):
        world = World().with_kind("flag", [("yes", ()), ("no", ())]).with_kind("pair", [("two", ("flag", "flag"))])
        world = world.with_operator("turn", ("pair",), "pair", [
            (of("turn", of("two", A, B)), of("two", B, A)),
        ])
        world = world.with_operator("front", ("pair",), "flag", [(of("front", of("two", A, B)), A)])
        term = of("front", of("turn", of("two", of("yes"), of("no"))))
        self.assertEqual(reckoned(world, term), of("no"))


if __name__ == "__main__":
    unittest.main()

"""Normal forms: [14]."""

import unittest

from showhouse.errors import BadTerm, TooMuch
from showhouse.judge import judged
from showhouse.plain import plain
from showhouse.sayings import Saying
from showhouse.worlds import World
from tests.judging import D, F, M, NO, NONE, YES, add, after, flip, full_world, row
from tests.samples import A, B, C, LIST, NAT, NO_TERMS, ZERO, bindings_that_are_none, chain, numeral, of

HOLES = {"a": "nat", "b": "nat", "d": "nat", "f": "flag", "m": "list"}


def put(first, rest):
    return of("put", first, rest)


def doubling():
    """Numbers whose operator writes its argument twice, and one that drops the second of its two."""
    world = World().with_kind("nat", NAT).with_kind("list", LIST)
    world = world.with_kind("tree", [("tip", ("nat",)), ("both", ("tree", "tree"))])
    world = world.with_operator("twin", ("tree",), "tree", [(of("twin", A), of("both", A, A))])
    world = world.with_operator("drop", ("nat", "nat"), "nat", [(of("drop", A, B), A)])
    return world.with_operator("count", ("nat",), "nat", [
        (of("count", ZERO), ZERO), (of("count", after(B)), after(of("count", B))),
    ])


class Forms(unittest.TestCase):
    def setUp(self):
        self.world = full_world()

    def goes(self, term, end, *steps):
        found, told = plain(self.world, term, HOLES)
        self.assertEqual(found, end)
        self.assertIsInstance(told, list)
        self.assertEqual(told, list(steps))
        self.assertEqual([list(one[3]) for one in told], [list(one[3]) for one in steps])
        goal = Saying("goal", {"d": "nat", "a": "nat", "f": "flag", "m": "list", "b": "nat"}, [], term, end)
        self.assertIsNone(judged(self.world, goal, chain(*told)))

    def test_what_is_plain_already(self):
        for term in (A, ZERO, after(A), add(A, B), add(A, ZERO), put(A, M), flip(F), of("pick", A, F, ZERO)):
            self.goes(term, term)

    def test_one_step(self):
        self.goes(add(ZERO, A), A, row("add", 0, b=A))
        self.goes(flip(YES), NO, row("flip", 1))
        self.goes(flip(NO), YES, row("flip", 0))
        self.goes(after(add(ZERO, A)), after(A), row("add", 0, (0,), b=A))

    def test_the_left_term_is_fitted_by_a_term_with_holes(self):
        self.goes(add(after(add(B, D)), A), after(add(add(B, D), A)), row("add", 1, a=add(B, D), b=A))
        self.goes(of("pick", B, YES, A), B, row("pick", 0, a=B, b=A))
        # A hole of the term may have the name of a hole of the row.
        self.goes(add(after(B), add(A, B)), after(add(B, add(A, B))), row("add", 1, a=B, b=add(A, B)))

    def test_bindings_are_in_the_order_of_the_left_term(self):
        self.world = self.world.with_operator("turn", ("nat", "list"), "list", [
            (of("turn", D, NONE), put(D, NONE)), (of("turn", D, of("put", B, M)), put(B, of("turn", D, M))),
        ])
        self.goes(of("turn", A, put(B, NONE)), put(B, put(A, NONE)),
                  row("turn", 1, d=A, b=B, m=NONE), row("turn", 0, (1,), d=A))

    def test_steps_go_on_until_no_row_fits(self):
        self.goes(add(numeral(3), A), after(after(A)),
                  row("add", 1, a=numeral(2), b=A), row("add", 1, (0,), a=ZERO, b=A), row("add", 0, (0, 0), b=A))

    def test_the_first_place_is_the_outermost_and_leftmost(self):
        inner = add(ZERO, A)
        self.goes(add(ZERO, inner), A, row("add", 0, b=inner), row("add", 0, b=A))
        self.goes(add(A, inner), add(A, A), row("add", 0, (1,), b=A))
        self.goes(put(inner, put(add(ZERO, B), M)), put(A, put(B, M)),
                  row("add", 0, (0,), b=A), row("add", 0, (1, 0), b=B))
        # The whole term is ahead of its parts, and what is inside the first argument ahead of the second one.
        self.goes(of("pick", add(ZERO, after(inner)), F, inner), of("pick", after(A), F, A),
                  row("add", 0, (0,), b=after(inner)), row("add", 0, (0, 0), b=A), row("add", 0, (2,), b=A))

    def test_an_inner_step_may_make_an_outer_one_possible(self):
        self.goes(add(add(ZERO, ZERO), A), A, row("add", 0, (0,), b=ZERO), row("add", 0, b=A))
        self.goes(of("pick", add(ZERO, A), flip(NO), B), A,
                  row("add", 0, (0,), b=A), row("flip", 0, (1,)), row("pick", 0, a=A, b=B))

    def test_operators_without_a_column(self):
        self.world = doubling()
        holes = {"a": "nat", "b": "nat"}
        self.assertEqual(plain(self.world, of("drop", A, B), holes), (A, [row("drop", 0, a=A, b=B)]))
        tip = of("tip", A)
        self.assertEqual(plain(self.world, of("twin", tip), holes), (of("both", tip, tip), [row("twin", 0, a=tip)]))

    def test_the_steps_are_rows_only(self):
        self.world = self.world.with_saying(Saying("base", {"a": "nat"}, [], add(A, ZERO), A))
        self.goes(add(A, ZERO), add(A, ZERO))


class Bounds(unittest.TestCase):
    def setUp(self):
        self.world = full_world().with_operator("double", ("nat",), "nat", [
            (of("double", ZERO), ZERO), (of("double", after(A)), after(after(of("double", A)))),
        ])

    def test_sixty_steps_and_one_more(self):
        # The double of a numeral of 20 heads takes 20 steps, and its sum 39 more.
        term = add(of("double", numeral(20)), A)
        end = A
        for _ in range(38):
            end = after(end)
        for more in (59, 60):
            found, steps = plain(self.world, term, {"a": "nat"})
            self.assertEqual((found, len(steps)), (end, more))
            goal = Saying("goal", {"a": "nat"}, [], term, end)
            self.assertIsNone(judged(self.world, goal, chain(*steps)))
            term = add(ZERO, term)
        with self.assertRaises(TooMuch):
            plain(self.world, term, {"a": "nat"})

    def test_sixty_holes_and_heads_and_one_more(self):
        self.assertEqual(plain(self.world, numeral(60), {})[1], [])
        # One step ahead of the last one there are 58 times next, and double zero.
        self.assertEqual(plain(self.world, of("double", numeral(30)), {})[0], numeral(59))
        with self.assertRaises(TooMuch):
            plain(self.world, of("double", numeral(31)), {})
        tree = of("tip", numeral(28))
        self.assertEqual(plain(doubling(), of("twin", tree), {}), (of("both", tree, tree), [row("twin", 0, a=tree)]))
        with self.assertRaises(TooMuch):
            plain(doubling(), of("twin", of("tip", numeral(29))), {})

    def test_a_larger_term_on_the_way_to_a_small_one(self):
        world = doubling().with_operator("gone", ("tree",), "nat", [(of("gone", A), ZERO)])
        tree = of("tip", numeral(40))
        # The outermost place is first, so nothing becomes large.
        self.assertEqual(plain(world, of("gone", of("twin", tree)), {})[0], ZERO)


class Refusals(unittest.TestCase):
    def setUp(self):
        self.world = full_world()

    def refused(self, term, holes):
        with self.assertRaises(BadTerm):
            plain(self.world, term, holes)

    def test_what_is_no_term(self):
        for value in NO_TERMS:
            with self.subTest(value=value):
                self.refused(value, HOLES)
        self.refused(numeral(61), HOLES)

    def test_terms_without_a_kind(self):
        for term in (C, add(A, C), add(A, F), of("add", A), of("what", A), after(NONE), of("nat")):
            self.refused(term, HOLES)
        self.refused(A, {})

    def test_holes_that_are_none(self):
        for value in bindings_that_are_none():
            self.refused(ZERO, value)
        for holes in ({"zero": "nat"}, {"add": "nat"}, {"a": "what"}, {"a": None}, {"A": "nat"}, {0: "nat"}, {"a": ["nat"]}):
            self.refused(ZERO, holes)

    def test_a_bad_term_ahead_of_too_much(self):
        self.refused(of("twin", of("tip", numeral(29))), {})

    def test_nothing_is_kept_or_modified(self):
        holes = {"a": "nat"}
        first = plain(self.world, add(ZERO, A), holes)
        self.assertEqual(holes, {"a": "nat"})
        first[1][0][3]["b"] = ZERO
        first[1].clear()
        self.assertEqual(plain(self.world, add(ZERO, A), holes), (A, [row("add", 0, b=A)]))
        self.refused(add(ZERO, B), holes)
        self.assertEqual(holes, {"a": "nat"})


if __name__ == "__main__":
    unittest.main()

"""The steps that fit a term: [15]."""

import unittest

from showhouse.errors import BadName, BadTerm
from showhouse.plain import fitting
from showhouse.sayings import Saying
from tests.judging import D, F, M, N, NAT_A, NATS, NO, NONE, YES, add, after, flip, full_world, row, saying
from tests.samples import A, B, C, NO_NAMES, NO_TERMS, ZERO, bindings_that_are_none, hole, numeral, of

HOLES = {"a": "nat", "b": "nat", "d": "nat", "f": "flag", "m": "list"}


class Fitting(unittest.TestCase):
    def setUp(self):
        self.world = full_world()

    def with_saying(self, *parts):
        self.world = self.world.with_saying(Saying(*parts))

    def fits(self, names, term, *steps, holes=None):
        for given in (list(names), tuple(names)):
            found = fitting(self.world, given, term, holes or HOLES)
            self.assertIsInstance(found, list)
            self.assertEqual(found, list(steps))
            self.assertEqual([list(one[3]) for one in found], [list(one[3]) for one in steps])

    def test_no_names(self):
        self.fits((), add(ZERO, A))

    def test_a_row_on_and_back(self):
        self.fits(["flip"], flip(YES), row("flip", 0, (0,), "back"), row("flip", 1))
        self.fits(["flip"], flip(flip(NO)),
                  row("flip", 0, (0,)), row("flip", 1, (0, 0), "back"))

    def test_rows_in_their_order_and_places_in_theirs(self):
        both = add(ZERO, ZERO)
        self.fits(
            ["add"], add(both, both),
            row("add", 0, (0,), b=ZERO), row("add", 0, (1,), b=ZERO),
            row("add", 0, (), "back", b=add(both, both)), row("add", 0, (0,), "back", b=both),
            row("add", 0, (0, 0), "back", b=ZERO), row("add", 0, (0, 1), "back", b=ZERO),
            row("add", 0, (1,), "back", b=both), row("add", 0, (1, 0), "back", b=ZERO),
            row("add", 0, (1, 1), "back", b=ZERO),
        )

    def test_all_of_a_row_on_ahead_of_all_back(self):
        term = after(add(after(A), B))
        self.fits(
            ["add"], term,
            row("add", 0, (), "back", b=term), row("add", 0, (0,), "back", b=add(after(A), B)),
            row("add", 0, (0, 0), "back", b=after(A)), row("add", 0, (0, 0, 0), "back", b=A),
            row("add", 0, (0, 1), "back", b=B),
            row("add", 1, (0,), a=A, b=B), row("add", 1, (), "back", a=after(A), b=B),
        )

    def test_a_side_without_all_holes_does_not_fit(self):
        # Neither right side of pick has both of its holes.
        self.fits(["pick"], of("pick", A, YES, B), row("pick", 0, a=A, b=B))
        self.fits(["pick"], of("pick", A, F, B))
        self.with_saying("still", NATS, [], add(A, ZERO), A)
        self.fits(["still"], add(A, ZERO))
        self.with_saying("loose", NATS, [], of("pick", A, YES, B), A)
        self.fits(["loose"], of("pick", B, YES, D), saying("loose", a=B, b=D))

    def test_terms_of_another_kind_do_not_take_the_place_of_a_hole(self):
        self.fits(
            ["add"], of("put", ZERO, M),
            row("add", 0, (0,), "back", b=ZERO),
        )
        self.with_saying("same", {"m": "list"}, [], M, M)
        self.fits(["same"], of("put", ZERO, of("put", A, NONE)), *[
            saying("same", place, way, m=part) for way in ("on", "back") for place, part in (
                ((), of("put", ZERO, of("put", A, NONE))), ((1,), of("put", A, NONE)), ((1, 1), NONE),
            )
        ])

    def test_a_hole_that_occurs_twice(self):
        self.with_saying("twice", NAT_A, [], add(A, A), ZERO)
        self.fits(["twice"], add(B, B), saying("twice", a=B))
        self.fits(["twice"], add(B, D))
        self.fits(["twice"], add(add(ZERO, A), add(ZERO, A)), saying("twice", a=add(ZERO, A)))
        self.fits(["twice"], add(add(A, A), add(A, B)), saying("twice", (0,), a=A))

    def test_sides_without_holes(self):
        self.with_saying("odd", {}, [], ZERO, after(ZERO))
        self.fits(["odd"], after(ZERO), saying("odd", (0,)), saying("odd", (), "back"))
        self.fits(["odd"], A)

    def test_sayings_on_and_back_with_bindings_in_the_order_of_their_holes(self):
        self.with_saying("turn", {"b": "nat", "a": "nat"}, [], add(A, B), add(B, A))
        self.fits(["swap"], add(D, ZERO), saying("swap", a=D, b=ZERO), saying("swap", (), "back", a=ZERO, b=D))
        self.fits(["turn"], add(D, ZERO), saying("turn", b=ZERO, a=D), saying("turn", (), "back", b=D, a=ZERO))

    def test_the_order_of_the_world_counts_and_not_that_of_the_names(self):
        self.with_saying("turn", {"b": "nat", "a": "nat"}, [], add(A, B), add(B, A))
        term = of("pick", add(A, B), YES, ZERO)
        swaps = [saying("swap", (0,), a=A, b=B), saying("swap", (0,), "back", a=B, b=A)]
        turns = [saying("turn", (0,), b=B, a=A), saying("turn", (0,), "back", b=A, a=B)]
        flips = [row("flip", 0, (1,), "back")]
        picks = [row("pick", 0, a=add(A, B), b=ZERO)]
        for names in (["swap", "turn", "flip", "pick"], ["pick", "turn", "flip", "swap"], ["turn", "pick", "swap", "flip"]):
            self.fits(names, term, *flips, *picks, *swaps, *turns)
        self.fits(["turn", "swap"], term, *swaps, *turns)
        self.fits(["swap", "pick"], term, *picks, *swaps)

    def test_sayings_with_givens_are_left_out(self):
        self.fits(["cut"], add(A, B))
        self.fits(["trans", "swap", "cut"], add(A, B), saying("swap", a=A, b=B), saying("swap", (), "back", a=B, b=A))

    def test_a_name_of_an_operator_and_a_saying(self):
        self.with_saying("flip", {"f": "flag"}, [], flip(flip(F)), F)
        self.fits(
            ["flip"], flip(flip(YES)),
            row("flip", 0, (0, 0), "back"), row("flip", 1, (0,)), saying("flip", f=YES),
            saying("flip", (), "back", f=flip(flip(YES))), saying("flip", (0,), "back", f=flip(YES)),
            saying("flip", (0, 0), "back", f=YES),
        )

    def test_steps_whose_result_is_too_large_are_left_out(self):
        self.with_saying("base", NAT_A, [], A, add(A, ZERO))
        for heads, many in ((58, 58), (59, 0), (60, 0)):
            found = fitting(self.world, ["base"], numeral(heads), {})
            self.assertEqual(len(found), many)
        self.with_saying("wide", NAT_A, [], after(after(A)), add(A, A))
        # The result has as many more holes and heads as stand below the two that are replaced.
        found = fitting(self.world, ["wide"], numeral(33), {})
        self.assertEqual([one[2] for one in found], [(0,) * depth for depth in range(3, 31)])
        self.assertEqual(found[0], saying("wide", (0, 0, 0), a=numeral(28)))

    def test_bindings_of_a_row_that_is_taken_back(self):
        self.world = self.world.with_operator("turn", ("nat", "flag", "nat"), "nat", [
            (of("turn", C, YES, D), add(D, C)), (of("turn", C, NO, D), C),
        ])
        self.fits(["turn"], add(A, B), row("turn", 0, (), "back", c=B, d=A))

    def test_holes_of_the_term_are_not_those_of_the_by(self):
        self.fits(["swap"], add(B, A), saying("swap", a=B, b=A), saying("swap", (), "back", a=A, b=B))
        self.fits(["swap"], N, holes={"n": "nat"})


class Refusals(unittest.TestCase):
    def setUp(self):
        self.world = full_world()

    def bad_name(self, names, term=ZERO):
        with self.assertRaises(BadName):
            fitting(self.world, names, term, HOLES)

    def test_names_that_are_none(self):
        for names in (None, True, 0, "", "add", {"add"}, {"add": 1}, b"add", object(), {}):
            self.bad_name(names)
        for value in NO_NAMES:
            self.bad_name([value])
            self.bad_name(("add", value))

    def test_names_that_are_not_there(self):
        for name in ("what", "nat", "zero", "next", "list", "a"):
            self.bad_name([name])
            self.bad_name(("swap", name))

    def test_names_that_are_not_distinct(self):
        self.bad_name(["add", "add"])
        self.bad_name(("swap", "add", "swap"))

    def test_a_bad_term_behind_bad_names(self):
        self.bad_name(["what"], None)
        for value in NO_TERMS + [C, hole("e"), add(A, F), of("what"), numeral(61)]:
            with self.assertRaises(BadTerm):
                fitting(self.world, ["add"], value, HOLES)
        for value in bindings_that_are_none() + [{"zero": "nat"}, {"a": "what"}]:
            with self.assertRaises(BadTerm):
                fitting(self.world, ["add"], ZERO, value)
            with self.assertRaises(BadName):
                fitting(self.world, "add", ZERO, value)

    def test_nothing_is_kept_or_modified(self):
        names, holes = ["swap", "add"], {"a": "nat"}
        first = fitting(self.world, names, add(ZERO, A), holes)
        self.assertEqual((names, holes), (["swap", "add"], {"a": "nat"}))
        again = fitting(self.world, names, add(ZERO, A), holes)
        first[0][3].clear()
        first.clear()
        self.assertEqual(fitting(self.world, names, add(ZERO, A), holes), again)
        self.assertEqual(again[0], row("add", 0, b=A))


if __name__ == "__main__":
    unittest.main()

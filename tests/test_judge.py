"""Showings that the judge accepts, and steps of each sort: [9], [10] and [11]."""

import unittest

from showhouse.judge import Slip, judged
from showhouse.sayings import Saying
from tests.judging import (
    D, F, NAT_A, NATS, NO, NONE, YES, Judging, add, add_zero, after, flip, given, held, never, row, saying,
)
from tests.samples import A, B, C, ZERO, chain, hole, numbers, numeral, of


class OnItsOwn(Judging):
    def test_an_empty_chain(self):
        self.accepted(NAT_A, [], A, A, chain())
        self.slips(NATS, [], A, B, chain(), [], "end")

    def test_a_chain(self):
        self.accepted(NAT_A, [], add(after(ZERO), A), after(A), chain(
            row("add", 1, a=ZERO, b=A), row("add", 0, (0,), b=A),
        ))

    def test_an_induction(self):
        self.accepted(NAT_A, [], add(A, ZERO), A, add_zero())

    def test_a_case_distinction(self):
        self.accepted({"f": "flag"}, [], flip(flip(F)), F, ("split", "f", {
            "yes": ((), chain(row("flip", 1, (0,)), row("flip", 0))),
            "no": ((), chain(row("flip", 0, (0,)), row("flip", 1))),
        }))

    def test_peel(self):
        self.accepted(NATS, [(after(A), after(B))], A, B, ("peel", 0, chain(given(1))))

    def test_never(self):
        self.accepted(NATS, [(ZERO, after(A))], A, B, never(0))
        self.accepted(NATS, [(after(after(A)), ZERO)], A, B, never(0))
        self.accepted({}, [(YES, YES), (NO, YES)], ZERO, after(ZERO), never(1))

    def test_so(self):
        self.accepted(NATS, [], add(add(A, ZERO), B), add(B, A), (
            "so", add(A, ZERO), A, add_zero(b=B), chain(given(0, (0,)), saying("swap", a=A, b=B)),
        ))


class WithinOneAnother(Judging):
    def test_so_and_peel(self):
        self.accepted(NATS, [(after(A), after(after(B)))], A, add(ZERO, after(B)), (
            "so", A, after(B), ("peel", 0, chain(given(1))), chain(given(1), row("add", 0, way="back", b=after(B))),
        ))

    def test_all_six(self):
        self.accepted({"a": "nat", "f": "flag"}, [(after(A), after(ZERO))], flip(flip(F)), F, (
            "peel", 0, ("split", "a", {
                "next": (("b",), never(1)),
                "zero": ((), ("through", "f", {
                    "no": ((), ("so", flip(NO), YES, chain(row("flip", 0)), chain(given(2, (0,)), row("flip", 1)))),
                    "yes": ((), chain(row("flip", 1, (0,)), row("flip", 0))),
                })),
            }),
        ))

    def test_a_step_with_an_induction_inside(self):
        inner = (chain(), add_zero(b=B))
        there = saying("trans", (0,), "on", inner, a=add(A, ZERO), b=add(A, ZERO), c=A)
        again = saying("trans", (0,), "back", inner, a=add(A, ZERO), b=add(A, ZERO), c=A)
        self.accepted(NATS, [], after(add(A, ZERO)), after(A), chain(there, again, there))

    def test_addition_commutes(self):
        self.accepted(NATS, [], add(A, after(B)), after(add(A, B)), ("through", "a", {
            "zero": ((), chain(row("add", 0, b=after(B)), row("add", 0, (0,), "back", b=B))),
            "next": (("c",), chain(
                row("add", 1, a=C, b=after(B)), held(0, (0,), b=B), row("add", 1, (0,), "back", a=C, b=B),
            )),
        }))
        self.world = self.world.with_saying(Saying("shift", NATS, [], add(A, after(B)), after(add(A, B))))
        self.world = self.world.with_saying(Saying("base", NAT_A, [], add(A, ZERO), A))
        self.accepted(NATS, [], add(A, B), add(B, A), ("through", "a", {
            "zero": ((), chain(row("add", 0, b=B), saying("base", way="back", a=B))),
            "next": (("c",), chain(
                row("add", 1, a=C, b=B), held(0, (0,), b=B), saying("shift", way="back", a=B, b=C),
            )),
        }))

    def test_twelve_deep(self):
        for inmost, expected in ((chain(), None), (chain(held(0)), ([("so", 1)] * 11 + [("step", 0)], "by"))):
            for _ in range(11):
                inmost = ("so", A, A, chain(), inmost)
            self.assertEqual(self.found(NAT_A, [], A, A, inmost), expected)


class Steps(Judging):
    """One step each, from left to right."""

    HOLES = {"a": "nat", "b": "nat", "f": "flag", "m": "list"}

    def goes(self, left, one, right, *givens):
        self.accepted(self.HOLES, list(givens), left, right, chain(one))

    def test_rows(self):
        self.goes(add(ZERO, A), row("add", 0, b=A), A)
        self.goes(add(after(B), A), row("add", 1, a=B, b=A), after(add(B, A)))
        self.goes(of("pick", A, NO, add(A, B)), row("pick", 1, a=A, b=add(A, B)), add(A, B))
        self.goes(flip(YES), row("flip", 1), NO)

    def test_rows_back(self):
        self.goes(A, row("add", 0, way="back", b=A), add(ZERO, A))
        self.goes(after(add(B, A)), row("add", 1, way="back", a=B, b=A), add(after(B), A))
        # A hole that the right side does not have is bound all the same.
        self.goes(A, row("pick", 0, way="back", a=A, b=numeral(3)), of("pick", A, YES, numeral(3)))

    def test_places_within(self):
        put, rest = of("put", add(ZERO, A), NONE), hole("m")
        self.goes(put, row("add", 0, (0,), b=A), of("put", A, NONE))
        self.goes(of("put", A, of("put", add(ZERO, B), rest)), row("add", 0, (1, 0), b=B),
                  of("put", A, of("put", B, rest)))
        self.goes(of("pick", A, flip(NO), B), row("flip", 0, (1,)), of("pick", A, YES, B))
        self.goes(of("pick", A, F, after(after(B))), row("add", 0, (2, 0, 0), "back", b=B),
                  of("pick", A, F, after(after(add(ZERO, B)))))
        # Only the place itself changes, though the same term stands beside it.
        self.goes(add(A, A), row("add", 0, (1,), "back", b=A), add(A, add(ZERO, A)))

    def test_sayings(self):
        self.goes(add(A, after(B)), saying("swap", a=A, b=after(B)), add(after(B), A))
        self.goes(add(A, after(B)), saying("swap", way="back", a=after(B), b=A), add(after(B), A))
        self.goes(after(add(ZERO, A)), saying("swap", (0,), a=ZERO, b=A), after(add(A, ZERO)))

    def test_all_holes_are_replaced_at_once(self):
        self.goes(add(B, A), saying("swap", a=B, b=A), add(A, B))
        self.goes(add(after(B), A), row("add", 1, a=B, b=A), after(add(B, A)))

    def test_givens(self):
        self.goes(A, given(0), after(B), (A, after(B)))
        self.goes(add(A, A), given(1, (1,)), add(A, ZERO), (ZERO, ZERO), (A, ZERO))
        self.goes(add(A, ZERO), given(1, (1,), "back"), add(A, A), (ZERO, ZERO), (A, ZERO))

    def test_givens_of_a_saying(self):
        self.goes(A, saying("cut", (), "on", [chain(given(0))], a=A, b=B), B, (after(A), after(B)))
        self.goes(B, saying("cut", (), "back", [chain(given(0))], a=A, b=B), A, (after(A), after(B)))
        inner = [chain(given(0)), chain(given(1))]
        givens = [(A, after(B)), (after(B), ZERO)]
        self.goes(A, saying("trans", (), "on", inner, a=A, b=after(B), c=ZERO), ZERO, *givens)
        turned = saying("trans", (), "on", list(reversed(inner)), a=A, b=after(B), c=ZERO)
        self.slips(NATS, givens, A, ZERO, chain(turned), [("inner", 0, 0), ("step", 0)], "side")

    def test_givens_of_a_held_entry(self):
        # If add a b = add a c, then b = c. What is held has this given, too, with d in place of a.
        holes = {"a": "nat", "b": "nat", "c": "nat"}
        givens = [(add(A, B), add(A, C))]

        def showing(number, *steps):
            zero = chain(row("add", 0, way="back", b=B), given(0), row("add", 0, b=C))
            first = chain(row("add", 1, way="back", a=D, b=B), given(0), row("add", 1, a=D, b=C))
            second = ("peel", number, chain(*steps))
            return ("through", "a", {
                "zero": ((), zero), "next": (("d",), ("so", after(add(D, B)), after(add(D, C)), first, second)),
            })

        there = held(0, (), "on", [chain(given(2))], b=B, c=C)
        again = held(0, (), "back", [chain(given(2))], b=B, c=C)
        self.accepted(holes, givens, B, C, showing(1, there))
        self.accepted(holes, givens, B, C, showing(1, there, again, there))
        where = [("case", "next"), ("so", 1), ("peel", 0)]
        bad = held(0, (), "on", [chain(given(1))], b=B, c=C)
        self.slips(holes, givens, B, C, showing(1, there, again, bad), where + [("inner", 2, 0), ("step", 0)], "side")

    def test_inner_showings_are_in_the_same_context(self):
        inner = ("split", "f", {"yes": ((), chain(given(0))), "no": ((), chain(given(0)))})
        self.goes(A, saying("cut", (), "on", [inner], a=A, b=B), B, (after(A), after(B)))
        self.slips(NATS, [(after(A), after(B))], A, B, chain(
            saying("cut", (), "on", [chain(given(0), given(1))], a=A, b=B),
        ), [("inner", 0, 0), ("step", 1)], "by")


class Calls(Judging):
    """What a call leaves behind: nothing but what it returns."""

    def test_a_slip_has_its_attributes_from_the_start(self):
        where = [("case", "zero"), ("step", 0)]
        slip = Slip(where, "by")
        self.assertEqual((slip.where, slip.why), ([("case", "zero"), ("step", 0)], "by"))
        self.assertEqual(Slip([], "end").where, [])
        where.append(("so", 0))
        self.assertEqual(slip.where, [("case", "zero"), ("step", 0)])
        self.assertIsNot(slip.where, where)

    def test_each_slip_is_new(self):
        goal = Saying("goal", NAT_A, [], A, A)
        showing = ("so", A, A, chain(held(0)), chain())
        first = judged(self.world, goal, showing)
        self.assertIsInstance(first, Slip)
        self.assertEqual((first.where, first.why), ([("so", 0), ("step", 0)], "by"))
        first.where.clear()
        second = judged(self.world, goal, showing)
        self.assertEqual((second.where, second.why), ([("so", 0), ("step", 0)], "by"))

    def test_the_arguments_are_neither_modified_nor_kept(self):
        showing = add_zero()
        goal = Saying("goal", NAT_A, [], add(A, ZERO), A)
        before = (self.world.kinds(), self.world.operators(), self.world.sayings())
        self.assertIsNone(judged(self.world, goal, showing))
        self.assertEqual(showing, add_zero())
        self.assertEqual(list(showing[2]), ["zero", "next"])
        self.assertEqual((self.world.kinds(), self.world.operators(), self.world.sayings()), before)
        del showing[2]["zero"]
        self.assertEqual(judged(self.world, goal, showing).why, "cases")
        showing[2]["zero"] = add_zero()[2]["zero"]
        self.assertIsNone(judged(self.world, goal, showing))
        showing[2]["zero"][1][1][0][3]["b"] = A
        self.assertEqual(judged(self.world, goal, showing).why, "bindings")
        self.assertIsNone(judged(self.world, goal, add_zero()))

    def test_a_saying_may_be_shown_by_itself_if_the_world_has_it(self):
        goal = self.world.sayings()["swap"]
        self.assertIsNone(judged(self.world, goal, chain(saying("swap", a=A, b=B))))
        self.assertEqual(judged(numbers(), goal, chain(saying("swap", a=A, b=B))).why, "by")


if __name__ == "__main__":
    unittest.main()

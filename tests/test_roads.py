"""What each road constructs, and what it leaves: [17] and [18]."""

import unittest

from showhouse.judge import judged
from showhouse.roads import Left, Shown, run_road
from showhouse.sayings import Saying
from showhouse.worlds import World
from tests.judging import (
    D, F, LEAF, M, N, NAT_A, NATS, NO, NONE, T, YES, add, add_zero, after, flip, fork, given, held, row, saying,
)
from tests.roading import OPEN, PLAIN, Roading, first, lean, seek, split, through
from tests.samples import A, B, C, NAT, ZERO, chain, hole, of

SWAPPED = ("saying", "swap")


class OnItsOwn(Roading):
    def test_plain(self):
        self.shows(NAT_A, [], A, A, PLAIN, chain())
        self.shows(NAT_A, [], add(ZERO, A), A, PLAIN, chain(row("add", 0, b=A)))
        self.shows(NAT_A, [], A, add(ZERO, A), PLAIN, chain(row("add", 0, way="back", b=A)))

    def test_plain_goes_forwards_and_then_backwards(self):
        left, right = add(after(ZERO), A), add(ZERO, after(add(ZERO, A)))
        self.shows(NAT_A, [], left, right, PLAIN, chain(
            row("add", 1, a=ZERO, b=A), row("add", 0, (0,), b=A),
            row("add", 0, (0,), "back", b=A), row("add", 0, way="back", b=after(add(ZERO, A))),
        ))

    def test_plain_takes_rows_back_that_lose_holes(self):
        self.shows(NATS, [], A, of("pick", A, YES, B), PLAIN, chain(row("pick", 0, way="back", a=A, b=B)))

    def test_plain_leaves_the_goal_as_it_was(self):
        self.remains(NATS, [], A, B, PLAIN)
        self.remains(NATS, [], add(ZERO, A), add(ZERO, B), PLAIN)
        self.remains(NATS, [(A, B)], A, B, PLAIN)

    def test_seek(self):
        self.shows(NATS, [], add(A, B), add(B, A), seek("swap"), chain(saying("swap", a=A, b=B)))
        self.shows(NATS, [], add(ZERO, add(A, B)), add(B, add(ZERO, A)), seek("swap", most=1), chain(
            row("add", 0, b=add(A, B)), saying("swap", a=A, b=B), row("add", 0, (1,), "back", b=A),
        ))
        self.shows(NAT_A, [], add(ZERO, A), A, seek(most=0), chain(row("add", 0, b=A)))

    def test_seek_with_operators(self):
        self.shows(NAT_A, [], add(A, after(ZERO)), after(A), seek("add", "swap"), chain(
            saying("swap", a=A, b=after(ZERO)), row("add", 1, a=ZERO, b=A), row("add", 0, (0,), b=A),
        ))

    def test_seek_with_no_more_than_so_many_steps(self):
        left, right = add(add(A, B), C), add(C, add(B, A))
        holes = {"a": "nat", "b": "nat", "c": "nat"}
        path = chain(saying("swap", a=add(A, B), b=C), saying("swap", (1,), a=A, b=B))
        self.shows(holes, [], left, right, seek("swap", most=2), path)
        self.remains(holes, [], left, right, seek("swap", most=1))
        self.remains(holes, [], left, right, seek("swap", most=0))
        self.remains(holes, [], left, right, seek())

    def test_seek_from_normal_form_to_normal_form_only(self):
        # The step is there ahead of the rows, but not behind them.
        self.world = self.world.with_saying(Saying("odd", NAT_A, [], add(ZERO, A), ZERO))
        self.remains(NAT_A, [], add(ZERO, A), ZERO, seek("odd", most=0))
        self.shows(NAT_A, [], add(ZERO, after(A)), ZERO, seek("odd", "add"), chain(
            row("add", 0, b=after(A)), row("add", 0, way="back", b=after(A)), saying("odd", a=after(A)),
        ))

    def test_through(self):
        self.shows({"a": "nat"}, [], add(A, ZERO), A, through("a", PLAIN, lean(("row", "add", 1), lean(
            ("held", 0), PLAIN, (0,)))), ("through", "a", {
                "zero": ((), chain(row("add", 0, b=ZERO))),
                "next": (("b",), (
                    "so", after(add(B, ZERO)), after(B),
                    ("so", after(B), after(B), chain(), chain(held(0, (0,)), given(0))),
                    chain(row("add", 1, a=B, b=ZERO), given(0)),
                )),
            }))

    def test_split(self):
        self.shows({"f": "flag"}, [], flip(flip(F)), F, split("f", PLAIN, PLAIN), ("split", "f", {
            "yes": ((), chain(row("flip", 1, (0,)), row("flip", 0))),
            "no": ((), chain(row("flip", 0, (0,)), row("flip", 1))),
        }))

    def test_what_cases_leave_is_in_the_order_of_the_builders(self):
        self.leaves({"a": "nat", "b": "nat"}, [(A, B)], add(A, B), A, through("a", OPEN, OPEN),
                    ([("case", "zero")], add(ZERO, B), ZERO), ([("case", "next")], add(after(C), B), after(C)))
        self.leaves({"t": "tree"}, [], T, LEAF, split("t", PLAIN, OPEN),
                    ([("case", "fork")], fork(A, B, C), LEAF))
        self.leaves({"f": "flag"}, [], flip(flip(F)), F, split("f", OPEN, PLAIN),
                    ([("case", "yes")], flip(flip(YES)), YES))

    def test_peel(self):
        self.shows(NATS, [(after(A), after(B))], A, B, ("peel", 0, lean(("given", 1), PLAIN)), (
            "peel", 0, ("so", B, B, chain(), chain(given(1), given(2))),
        ))
        self.leaves(NATS, [(A, B), (after(A), after(B))], A, B, ("peel", 1, OPEN), ([("peel", 0)], A, B))

    def test_never(self):
        self.shows(NATS, [(ZERO, after(A))], A, B, ("never", 0), ("never", 0))
        self.shows(NATS, [(A, B), (after(A), ZERO)], A, B, ("never", 1), ("never", 1))

    def test_so(self):
        left, right = add(B, A), add(A, B)
        self.shows(NATS, [], left, right, ("so", right, left, seek("swap"), seek("swap")), (
            "so", right, left, chain(saying("swap", a=A, b=B)), chain(saying("swap", a=B, b=A)),
        ))
        self.shows(NATS, [], left, right, ("so", left, right, seek("swap"), lean(("given", 0), PLAIN)), (
            "so", left, right, chain(saying("swap", a=B, b=A)),
            ("so", right, right, chain(), chain(given(0), given(1))),
        ))

    def test_what_so_leaves(self):
        self.leaves(NATS, [], A, B, ("so", B, A, OPEN, OPEN), ([("so", 0)], B, A), ([("so", 1)], A, B))
        self.leaves(NATS, [], A, B, ("so", add(ZERO, A), A, PLAIN, OPEN), ([("so", 1)], A, B))
        self.leaves(NATS, [], A, B, ("so", A, B, OPEN, lean(("given", 0), PLAIN)), ([("so", 0)], A, B))

    def test_open(self):
        self.remains(NATS, [], A, B, OPEN)
        self.remains(NATS, [], A, A, OPEN)

    def test_first(self):
        self.shows(NAT_A, [], A, A, first(PLAIN), chain())
        self.shows(NAT_A, [], A, A, first(OPEN, OPEN, OPEN, OPEN, OPEN, OPEN, OPEN, PLAIN), chain())
        self.shows(NATS, [(ZERO, after(A))], add(A, B), add(B, A), first(PLAIN, seek("swap"), ("never", 0)),
                   chain(saying("swap", a=A, b=B)))
        self.shows(NATS, [(ZERO, after(A))], add(A, B), add(B, A), first(PLAIN, ("never", 0), seek("swap")), ("never", 0))

    def test_first_leaves_what_the_first_one_leaves(self):
        goals = ([("case", "zero")], ZERO, B), ([("case", "next")], after(C), B)
        self.leaves(NATS, [], A, B, first(split("a", OPEN, OPEN), OPEN, PLAIN), *goals)
        self.leaves(NATS, [], A, B, first(split("a", PLAIN, PLAIN), split("b", OPEN, OPEN)), *goals)
        self.leaves(NATS, [], A, B, first(*[OPEN] * 8), ([], A, B))
        # Less remains at the second one, but it is the first one that tells.
        self.leaves(NATS, [], A, ZERO, first(split("a", OPEN, OPEN), split("a", PLAIN, OPEN)),
                    ([("case", "zero")], ZERO, ZERO), ([("case", "next")], after(C), ZERO))


class Leaning(Roading):
    def leans(self, holes, givens, left, right, road, new, step, number):
        """The road leans on one step, and is open from there on; or else shows the rest by a chain."""
        self.leaves(holes, givens, left, right, road + (OPEN,), ([("so", 0)], new, right))
        found = self.ran(holes, givens, left, new, road + (PLAIN,)).made
        self.assertEqual(found[:3], ("so", new, new))
        self.assertEqual(found[4], chain(step, given(number)))
        self.assertIsNone(judged(self.world, Saying("goal", holes, givens, left, new), found))

    def test_rows(self):
        self.leans(NATS, [], add(ZERO, A), B, ("lean", ("row", "add", 0), "on", ()), A, row("add", 0, b=A), 0)
        self.leans(NATS, [], add(B, add(after(B), A)), B, ("lean", ("row", "add", 1), "on", (1,)),
                   add(B, after(add(B, A))), row("add", 1, (1,), a=B, b=A), 0)
        self.leans(NATS, [], after(A), B, ("lean", ("row", "add", 0), "back", (0,)),
                   after(add(ZERO, A)), row("add", 0, (0,), "back", b=A), 0)
        self.leans(NATS, [(A, B)], after(add(B, A)), B, ("lean", ("row", "add", 1), "back", ()),
                   add(after(B), A), row("add", 1, (), "back", a=B, b=A), 1)

    def test_sayings(self):
        for way, bindings in (("on", {"a": ZERO, "b": A}), ("back", {"a": A, "b": ZERO})):
            self.leans(NATS, [], after(add(ZERO, A)), B, ("lean", SWAPPED, way, (0,)),
                       after(add(A, ZERO)), saying("swap", (0,), way, **bindings), 0)

    def test_givens(self):
        givens = [(A, after(B)), (add(A, B), B)]
        self.leans(NATS, givens, add(A, A), B, ("lean", ("given", 0), "on", (1,)), add(A, after(B)), given(0, (1,)), 2)
        self.leans(NATS, givens, after(B), B, ("lean", ("given", 0), "back", ()), A, given(0, (), "back"), 2)
        self.leans(NATS, givens, after(B), B, ("lean", ("given", 1), "back", (0,)), after(add(A, B)),
                   given(1, (0,), "back"), 2)

    def test_held_entries(self):
        # The entry holds for all other holes; the bindings are in their order.
        holes = {"c": "nat", "a": "nat", "b": "nat"}
        goal = add(add(A, B), C)
        self.leaves(holes, [], goal, add(A, add(B, C)), through("a", PLAIN, lean(
            ("row", "add", 1), lean(("row", "add", 1), lean(("held", 0), OPEN, (0,))), (0,))),
                    ([("case", "next"), ("so", 0), ("so", 0), ("so", 0)],
                     after(add(D, add(B, C))), add(after(D), add(B, C))))
        found = self.ran(holes, [], goal, add(A, add(B, C)), through("a", PLAIN, lean(
            ("row", "add", 1), lean(("row", "add", 1), lean(("held", 0), PLAIN, (0,))), (0,))))
        step = found.made[2]["next"][1][3][3][4][1][0]
        self.assertEqual(step, held(0, (0,), c=C, b=B))
        self.assertEqual(list(step[3]), ["c", "b"])

    def test_held_entries_back(self):
        self.shows({"a": "nat"}, [], A, add(A, ZERO), through("a", PLAIN, lean(
            ("held", 0), PLAIN, (0,))), ("through", "a", {
                "zero": ((), chain(row("add", 0, way="back", b=ZERO))),
                "next": (("b",), (
                    "so", after(add(B, ZERO)), add(after(B), ZERO),
                    chain(row("add", 1, way="back", a=B, b=ZERO)), chain(held(0, (0,)), given(0)),
                )),
            }))
        self.shows({"a": "nat"}, [], add(A, ZERO), A, through("a", PLAIN, lean(("row", "add", 1), lean(
            ("held", 0), lean(("held", 0), lean(("held", 0), PLAIN, (0,)), (0,), "back"), (0,)))), ("through", "a", {
                "zero": ((), chain(row("add", 0, b=ZERO))),
                "next": (("b",), (
                    "so", after(add(B, ZERO)), after(B),
                    ("so", after(B), after(B),
                     ("so", after(add(B, ZERO)), after(B),
                      ("so", after(B), after(B), chain(), chain(held(0, (0,)), given(0))),
                      chain(held(0, (0,), "back"), given(0))),
                     chain(held(0, (0,)), given(0))),
                    chain(row("add", 1, a=B, b=ZERO), given(0)),
                )),
            }))

    def test_the_bindings_of_a_saying_are_in_its_order(self):
        self.world = self.world.with_saying(Saying("turn", {"b": "nat", "a": "nat"}, [], add(A, B), add(B, A)))
        found = self.ran(NATS, [], add(A, B), add(B, A), lean(("saying", "turn"), PLAIN))
        self.assertEqual(list(found.made[4][1][0][3].items()), [("b", B), ("a", A)])

    def test_the_new_given_stands_behind_all_others(self):
        givens = [(after(A), after(B)), (ZERO, ZERO)]
        self.shows(NATS, givens, A, B, ("peel", 0, ("so", A, A, PLAIN, lean(("given", 2), PLAIN))), (
            "peel", 0, ("so", A, A, chain(), ("so", B, B, chain(), chain(given(2), given(4)))),
        ))


class Names(Roading):
    """The names that the roads choose for the holes of cases."""

    def names(self, holes, left, right, road, *path):
        """The names of the cases at the end of a path of builders."""
        showing = self.ran(holes, [], left, right, road).made
        for builder in path:
            showing = showing[2][builder][1]
        return {builder: names for builder, (names, _) in showing[2].items()}

    def test_each_builder_separately_and_each_kind_in_order(self):
        found = self.names({"t": "tree"}, T, T, split("t", PLAIN, PLAIN))
        self.assertEqual(found, {"leaf": (), "fork": ("a", "b", "c")})
        self.world = self.world.with_kind("two", [("one", ("nat", "flag")), ("other", ("flag",))])
        for word in (split, through):
            found = self.names({"x": "two"}, hole("x"), hole("x"), word("x", PLAIN, PLAIN))
            self.assertEqual(found, {"one": ("a", "b"), "other": ("a",)})

    def test_free_holes_are_not_new(self):
        # The hole itself is still there where its cases are named.
        holes = {"b": "nat", "a": "tree", "d": "nat"}
        for word in (split, through):
            self.assertEqual(self.names(holes, A, A, word("a", PLAIN, PLAIN))["fork"], ("c", "e", "f"))

    def test_heads_are_not_new(self):
        self.world = World().with_kind("nat", NAT).with_kind("pair", [("a", ("nat", "nat")), ("c", ("nat",))])
        self.world = self.world.with_operator("e", ("nat",), "nat", [(of("e", N), N)])
        found = self.names({"x": "pair"}, hole("x"), hole("x"), split("x", PLAIN, PLAIN))
        self.assertEqual(found, {"a": ("b", "d"), "c": ("b",)})
        found = self.names({"b": "pair", "d": "nat"}, B, B, split("b", PLAIN, PLAIN))
        self.assertEqual(found, {"a": ("f", "g"), "c": ("f",)})

    def test_fixed_holes_are_not_new(self):
        road = through("t", PLAIN, split("b", PLAIN, split("a", PLAIN, PLAIN)))
        self.assertEqual(self.names({"t": "tree"}, T, T, road, "fork")["next"], ("d",))
        # The hole that is split no longer exists behind it.
        self.assertEqual(self.names({"t": "tree"}, T, T, road, "fork", "next")["fork"], ("b", "e", "f"))

    def test_holes_of_held_entries_are_not_new(self):
        # What is held behind the first two has the hole b of its own, although b itself is split.
        road = through("a", PLAIN, split("b", PLAIN, split("a", PLAIN, PLAIN)))
        self.assertEqual(self.names(NATS, add(A, B), add(A, B), road)["next"], ("c",))
        self.assertEqual(self.names(NATS, add(A, B), add(A, B), road, "next")["next"], ("a",))
        self.assertEqual(self.names(NATS, add(A, B), add(A, B), road, "next", "next")["next"], ("d",))
        # Without an induction, nothing is held.
        road = split("a", PLAIN, split("b", PLAIN, split("a", PLAIN, PLAIN)))
        self.assertEqual(self.names(NATS, add(A, B), add(A, B), road, "next", "next")["next"], ("b",))

    def test_names_are_ordered_by_length_and_then_by_letters(self):
        letters = "abcdefghijklmnopqrstuvwxyz"
        world = World().with_kind("tri", [("leaf", ()), ("fork", ("tri", "tri", "tri"))])
        for head in letters[:24]:
            world = world.with_operator(head, (), "tri", [(of(head), LEAF)])
        self.world = world
        self.assertEqual(self.names({"one": "tri"}, LEAF, LEAF, split("one", PLAIN, PLAIN))["fork"], ("y", "z", "aa"))
        for head in [*letters[24:], *["a" + letter for letter in letters[:12]]]:
            world = world.with_operator(head, (), "tri", [(of(head), LEAF)])
        self.world = world
        holes = ["one", "two", "three", "four", "five"]
        road = PLAIN
        for name in reversed(holes):
            road = split(name, PLAIN, road)
        showing = self.ran({name: "tri" for name in holes}, [], LEAF, LEAF, road).made
        found = []
        for _ in holes:
            names, showing = showing[2]["fork"]
            found.extend(names)
        self.assertEqual(found, ["a" + letter for letter in letters[12:]] + ["ba"])

class Running(Roading):
    """What a call returns, and what it leaves behind."""

    def test_goals_are_in_order_with_their_locations(self):
        holes = {"a": "nat", "b": "nat", "f": "flag"}
        road = ("peel", 0, split("f", through("a", OPEN, ("so", A, B, PLAIN, OPEN)), PLAIN))
        self.leaves(
            holes, [(after(A), after(B))], of("pick", A, F, B), B, road,
            ([("peel", 0), ("case", "yes"), ("case", "zero")], of("pick", ZERO, YES, B), B),
            ([("peel", 0), ("case", "yes"), ("case", "next")], of("pick", after(C), YES, B), B),
        )
        road = ("peel", 0, split("f", through("a", OPEN, ("so", C, B, PLAIN, first(PLAIN, OPEN))), PLAIN))
        self.leaves(
            holes, [(after(A), after(B))], of("pick", A, F, B), B, road,
            ([("peel", 0), ("case", "yes"), ("case", "zero")], of("pick", ZERO, YES, B), B),
            ([("peel", 0), ("case", "yes"), ("case", "next"), ("so", 0)], C, B),
            ([("peel", 0), ("case", "yes"), ("case", "next"), ("so", 1)], of("pick", after(C), YES, B), B),
        )

    def test_a_goal_tells_a_location_and_two_sides(self):
        goal = self.ran(NATS, [], A, B, OPEN).goals[0]
        self.assertIsInstance(goal, tuple)
        self.assertEqual(goal, ([], A, B))

    def test_addition_commutes(self):
        base = through("a", PLAIN, lean(("row", "add", 1), lean(("held", 0), PLAIN, (0,))))
        goal = Saying("base", NAT_A, [], add(A, ZERO), A)
        self.assertIsNone(judged(self.world, goal, run_road(self.world, goal, base).made))
        self.world = self.world.with_saying(goal)
        shift = through("a", PLAIN, lean(("row", "add", 1), lean(("held", 0), PLAIN, (0,))))
        self.assertIsInstance(self.ran(NATS, [], add(A, after(B)), after(add(A, B)), shift), Shown)
        self.world = self.world.with_saying(Saying("shift", NATS, [], add(A, after(B)), after(add(A, B))))
        road = through("a", seek("base"), lean(("row", "add", 1), lean(("held", 0), seek("shift"), (0,))))
        self.assertIsInstance(self.ran(NATS, [], add(A, B), add(B, A), road), Shown)
        self.leaves(NATS, [], add(A, B), add(B, A), through("a", PLAIN, lean(("row", "add", 1), lean(
            ("held", 0), PLAIN, (0,)))),
                    ([("case", "zero")], add(ZERO, B), add(B, ZERO)),
                    ([("case", "next"), ("so", 0), ("so", 0)], after(add(B, C)), add(B, after(C))))

    def test_attributes_are_copies(self):
        showing = add_zero()
        shown = Shown(showing)
        showing[2]["next"][1][1][0][3].clear()
        showing[2].clear()
        self.assertEqual(shown.made, add_zero())
        self.assertEqual(list(shown.made[2]), ["zero", "next"])
        goals = [([("so", 0)], A, B)]
        left = Left(goals)
        goals[0][0].clear()
        goals.clear()
        self.assertEqual(left.goals, [([("so", 0)], A, B)])

    def test_each_answer_is_new(self):
        road = split("a", PLAIN, PLAIN)
        one = self.ran(NAT_A, [], add(ZERO, A), A, road)
        one.made[2]["zero"][1][1][0][3].clear()
        one.made[2].clear()
        self.shows(NAT_A, [], add(ZERO, A), A, road, ("split", "a", {
            "zero": ((), chain(row("add", 0, b=ZERO))), "next": (("b",), chain(row("add", 0, b=after(B)))),
        }))
        two = self.ran(NATS, [], A, B, split("a", OPEN, OPEN))
        two.goals[0][0].append(("so", 0))
        two.goals.clear()
        self.leaves(NATS, [], A, B, split("a", OPEN, OPEN),
                    ([("case", "zero")], ZERO, B), ([("case", "next")], after(C), B))

    def test_goals_do_not_share_their_locations(self):
        found = self.ran(NATS, [], A, B, ("so", A, B, split("a", OPEN, OPEN), first(OPEN, OPEN))).goals
        for at, (where, _, _) in enumerate(found):
            where.append(("so", at))
        self.assertEqual([where for where, _, _ in found], [
            [("so", 0), ("case", "zero"), ("so", 0)], [("so", 0), ("case", "next"), ("so", 1)], [("so", 1), ("so", 2)],
        ])

    def test_a_list(self):
        self.shows({"m": "list"}, [], M, M, through("m", PLAIN, PLAIN), ("through", "m", {
            "none": ((), chain()), "put": (("a", "b"), chain()),
        }))
        self.assertEqual(NONE, of("none"))


if __name__ == "__main__":
    unittest.main()

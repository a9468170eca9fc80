"""Roads that are impossible, so that the goal remains: [17]."""

import unittest

from showhouse.sayings import Saying
from showhouse.worlds import World
from tests.judging import D, F, M, NAT_A, NATS, NO, NONE, T, YES, add, after, flip, fork, given, held, row, saying
from tests.roading import OPEN, PLAIN, Roading, first, lean, seek, split, through
from tests.samples import A, B, C, NAT, ZERO, chain, hole, numeral, of


class Impossible(Roading):
    """The goal add a b = b, in which the roads that are named are tried."""

    def fails(self, *roads, givens=()):
        for road in roads:
            with self.subTest(road=road):
                self.remains(NATS, list(givens), add(A, B), B, road)


class Seeking(Impossible):
    def test_names(self):
        for names in (("what",), ("zero",), ("nat",), ("next",), ("swap", "swap"), ("add", "what"), ("goal",), ("a",)):
            self.fails(seek(*names))
            # Where the names are no names to search with, it does not help that nothing is to be found.
            self.remains(NATS, [], A, A, seek(*names))
            self.remains(NATS, [], add(ZERO, A), A, seek(*names, most=0))

    def test_too_much(self):
        world = World().with_kind("line", [("nil", ()), ("one", ("line",)), ("two", ("line",)), ("six", ("line",))])
        for head in ("one", "two", "six"):
            world = world.with_saying(Saying("go" + head, {}, [], of("nil"), of(head, of("nil"))))
        self.world = world
        nil, one, names = of("nil"), of("one", of("nil")), ("goone", "gotwo", "gosix")
        self.remains({"m": "line"}, [], nil, M, seek(*names, most=6))
        self.remains({"m": "line"}, [], nil, M, seek(*names, most=3))
        self.shows({"m": "line"}, [], nil, one, seek(*names, most=6), chain(saying("goone")))

    def with_double(self):
        self.world = self.world.with_operator("double", ("nat",), "nat", [
            (of("double", ZERO), ZERO), (of("double", after(A)), after(after(of("double", A)))),
        ])

    def test_a_normal_form_that_is_too_much(self):
        self.with_double()
        large, long = of("double", numeral(31)), add(ZERO, add(ZERO, add(of("double", numeral(20)), A)))
        for road in (PLAIN, seek(), seek("swap")):
            self.remains({}, [], large, ZERO, road)
            self.remains({}, [], ZERO, large, road)
            self.remains({}, [], large, large, road)
            self.remains(NAT_A, [], long, long, road)

    def test_a_chain_of_more_than_sixty_steps(self):
        self.with_double()
        one, other = of("double", numeral(30)), of("double", numeral(29))
        self.assertEqual(len(self.ran({}, [], one, one, PLAIN).made[1]), 60)
        self.assertEqual(len(self.ran({}, [], after(after(other)), one, PLAIN).made[1]), 59)
        self.remains({}, [], add(ZERO, other), add(ZERO, after(of("double", numeral(29)))), PLAIN)
        self.assertEqual(len(self.ran({}, [], add(ZERO, after(after(other))), one, PLAIN).made[1]), 60)
        self.remains({}, [], add(ZERO, one), one, PLAIN)

    def test_the_steps_that_are_searched_count_too(self):
        self.with_double()

        def side(zeros, term):
            found = of("double", numeral(20))
            for _ in range(zeros):
                found = add(ZERO, found)
            return of("pick", found, F, term)

        holes = {**NATS, "f": "flag"}
        left, right, larger = side(10, add(A, B)), side(9, add(B, A)), side(10, add(B, A))
        self.assertEqual(len(self.ran(holes, [], left, right, seek("swap")).made[1]), 60)
        self.remains(holes, [], left, larger, seek("swap"))


class Cases(Impossible):
    def test_holes(self):
        for word in (through, split):
            self.fails(word("c", PLAIN, PLAIN), word("zero", PLAIN, PLAIN), word("add", PLAIN, PLAIN))
        # Behind the case the hole is no longer there, and its names are fixed.
        for word in (through, split):
            self.leaves(NATS, [], A, B, split("a", PLAIN, word("a", PLAIN, PLAIN)),
                        ([("case", "zero")], ZERO, B), ([("case", "next")], after(C), B))
        self.leaves(NATS, [], A, B, split("a", PLAIN, through("c", PLAIN, PLAIN)),
                    ([("case", "zero")], ZERO, B), ([("case", "next")], after(C), B))
        self.leaves(NATS, [], A, B, split("a", PLAIN, split("c", PLAIN, PLAIN)),
                    ([("case", "zero")], ZERO, B), ([("case", "next"), ("case", "zero")], after(ZERO), B),
                    ([("case", "next"), ("case", "next")], after(after(A)), B))

    def test_more_or_fewer_roads_than_builders(self):
        for word in (through, split):
            self.fails(word("a"), word("a", PLAIN), word("a", PLAIN, PLAIN, PLAIN))
            self.remains(NAT_A, [], A, A, word("a", PLAIN))
            self.remains(NAT_A, [], A, A, word("a", PLAIN, PLAIN, PLAIN))

    def test_cases_that_are_too_large(self):
        # The sides have 60 holes and heads at most; two trees with names take three more than a hole each.
        deep = hole("t")
        for _ in range(19):
            deep = fork(deep, ZERO, T)
        self.assertEqual(len(self.ran({"t": "tree"}, [], T, deep, split("t", PLAIN, OPEN)).goals), 1)
        for word in (through, split):
            self.remains({"t": "tree"}, [], T, deep, word("t", OPEN, OPEN))
            self.remains({"t": "tree"}, [], deep, T, word("t", OPEN, OPEN))
            self.remains({"t": "tree"}, [(deep, T)], T, T, word("t", PLAIN, PLAIN))
            self.remains({"t": "tree"}, [(T, deep)], T, T, word("t", PLAIN, PLAIN))

    def test_sixty_holes_and_heads_are_not_too_large(self):
        term = numeral(60)
        inner = add(A, A)
        for _ in range(55):
            inner = after(inner)
        self.assertEqual(len(self.ran(NAT_A, [], inner, ZERO, split("a", OPEN, OPEN)).goals), 2)
        self.remains(NAT_A, [], after(inner), ZERO, split("a", OPEN, OPEN))
        self.assertEqual(len(self.ran(NAT_A, [], term, A, split("a", OPEN, OPEN)).goals), 2)

    def test_held_entries_that_are_too_large(self):
        # The goals are small in there, but what is held has two more holes and heads behind each split.
        term = add(A, A)
        for _ in range(55):
            term = after(term)
        for one, other in ((split("b", OPEN, split("a", OPEN, PLAIN)), [("case", "next")]),
                           (split("b", OPEN, PLAIN), None)):
            goals = [
                ([("case", "zero")], self.put(term, ZERO), ZERO),
                ([("case", "next"), ("so", 0), ("case", "zero")], ZERO, ZERO),
                ([("case", "next"), ("so", 1)], self.put(term, after(B)), ZERO),
            ]
            if other is not None:
                goals.insert(2, ([("case", "next"), ("so", 0)] + other, ZERO, ZERO))
            self.leaves(NAT_A, [], term, ZERO, through("a", OPEN, ("so", ZERO, ZERO, one, OPEN)), *goals)

    def put(self, term, part):
        return part if term == A else ("of", term[1], tuple(self.put(inner, part) for inner in term[2]))

    def test_the_other_roads_are_not_run(self):
        # The case of the leaf would leave a goal of its own, if the case of the fork were not too large.
        deep = hole("t")
        for _ in range(19):
            deep = fork(T, ZERO, deep)
        self.remains({"t": "tree"}, [], deep, T, split("t", OPEN, PLAIN))


class Givens(Impossible):
    GIVENS = ((A, B), (ZERO, after(A)), (after(A), after(B)), (add(ZERO, A), add(ZERO, B)), (after(A), A))

    def test_peel(self):
        self.fails(*[("peel", number, PLAIN) for number in (0, 1, 3, 4, 5, 6, 999)], givens=self.GIVENS[:4])
        self.leaves(NATS, list(self.GIVENS[:4]), A, B, ("peel", 2, ("peel", 4, PLAIN)), ([("peel", 0)], A, B))
        self.leaves(NATS, list(self.GIVENS[:4]), A, B, ("peel", 2, ("peel", 2, OPEN)), ([("peel", 0), ("peel", 0)], A, B))
        self.fails(("peel", 0, PLAIN), givens=[self.GIVENS[4]])

    def test_never(self):
        self.fails(*[("never", number) for number in (0, 2, 3, 4, 5, 999)], givens=self.GIVENS[:4])
        self.fails(("never", 0), givens=[self.GIVENS[4]])
        self.fails(("never", 0), givens=[(add(ZERO, ZERO), after(ZERO))])
        self.fails(("never", 0), ("peel", 0, PLAIN))

    def test_so(self):
        self.fails(
            ("so", A, YES, PLAIN, PLAIN), ("so", C, C, PLAIN, PLAIN), ("so", A, C, PLAIN, PLAIN),
            ("so", C, A, PLAIN, PLAIN), ("so", of("what"), A, PLAIN, PLAIN), ("so", of("add", A), A, PLAIN, PLAIN),
        )


class Leaning(Impossible):
    def test_no_such_by(self):
        self.fails(*[lean(by, PLAIN) for by in (
            ("row", "add", 2), ("row", "what", 0), ("row", "swap", 0), ("row", "next", 0), ("saying", "what"),
            ("saying", "add"), ("saying", "goal"), ("held", 0), ("given", 0), ("given", 999),
        )])

    def test_givens(self):
        # Both would fit if they had no givens.
        self.fails(lean(("saying", "cut"), PLAIN, (0,)), lean(("saying", "cut"), PLAIN, (0,), "back"))
        self.fails(lean(("saying", "trans"), PLAIN, (0,)))
        self.leaves(NATS, [(A, B)], A, B, through("a", OPEN, lean(("held", 0), OPEN)),
                    ([("case", "zero")], ZERO, B), ([("case", "next")], after(C), B))
        self.leaves({"a": "nat"}, [(A, A)], A, ZERO, through("a", OPEN, lean(("held", 0), OPEN, (0,))),
                    ([("case", "zero")], ZERO, ZERO), ([("case", "next")], after(B), ZERO))
        # The same without the given.
        self.leaves({"a": "nat"}, [], A, ZERO, through("a", OPEN, lean(("held", 0), OPEN, (0,))),
                    ([("case", "zero")], ZERO, ZERO), ([("case", "next"), ("so", 0)], after(ZERO), ZERO))

    def test_places(self):
        self.fails(*[lean(("row", "add", 0), OPEN, place, "back") for place in ((2,), (0, 0), (1, 0, 0), (999,))])
        self.remains({}, [], ZERO, after(ZERO), lean(("row", "add", 0), OPEN, (0,), "back"))

    def test_sides_that_do_not_fit(self):
        self.fails(lean(("row", "add", 0), PLAIN), lean(("row", "add", 1), PLAIN), lean(("row", "flip", 0), PLAIN))
        self.fails(lean(("row", "add", 1), PLAIN, (), "back"), lean(("saying", "swap"), PLAIN, (0,)))
        self.fails(lean(("given", 0), PLAIN), givens=[(A, B)])
        self.fails(lean(("given", 0), PLAIN, (0,), "back"), givens=[(A, B)])

    def test_sides_that_do_not_have_all_holes(self):
        self.fails(lean(("row", "pick", 0), PLAIN, (0,), "back"), lean(("row", "pick", 1), PLAIN, (), "back"))
        self.world = self.world.with_saying(Saying("wide", NATS, [], A, A))
        self.fails(lean(("saying", "wide"), PLAIN), lean(("saying", "wide"), PLAIN, (), "back"))

    def test_terms_of_another_kind(self):
        self.remains({"f": "flag"}, [], F, YES, lean(("row", "add", 0), OPEN, (), "back"))
        self.leaves({"f": "flag"}, [], of("pick", ZERO, F, ZERO), ZERO, lean(("row", "add", 0), OPEN, (0,), "back"),
                    ([("so", 0)], of("pick", add(ZERO, ZERO), F, ZERO), ZERO))
        self.remains({"f": "flag"}, [], of("pick", ZERO, F, ZERO), ZERO, lean(("row", "add", 0), OPEN, (1,), "back"))

    def test_a_goal_that_is_too_large(self):
        self.remains({}, [], numeral(59), ZERO, lean(("row", "add", 0), OPEN, (), "back"))
        self.remains({}, [], numeral(59), ZERO, lean(("row", "add", 0), OPEN, (0,) * 58, "back"))
        self.leaves({}, [], numeral(58), ZERO, lean(("row", "add", 0), OPEN, (0,) * 57, "back"),
                    ([("so", 0)], self.deep(add(ZERO, ZERO), 57), ZERO))

    def deep(self, term, count):
        for _ in range(count):
            term = after(term)
        return term

    def test_only_the_left_side_of_the_goal_is_transformed(self):
        self.remains(NAT_A, [], A, add(ZERO, A), lean(("row", "add", 0), PLAIN))

    def test_holes_of_the_context_are_not_those_of_the_by(self):
        # The given is about a and b themselves, whatever replaces holes elsewhere.
        self.remains(NATS, [(A, ZERO)], B, ZERO, lean(("given", 0), PLAIN))
        # What is held is about the new name alone.
        self.leaves({"a": "nat"}, [], add(A, ZERO), A, through("a", PLAIN, lean(("held", 0), OPEN)),
                    ([("case", "next")], add(after(B), ZERO), after(B)))


class Nesting(Roading):
    def test_twelve_deep(self):
        for inmost in (PLAIN, seek("swap"), OPEN):
            road, shown, goal = inmost, chain(), [("so", 1)] * 11
            for _ in range(11):
                road = ("so", A, A, PLAIN, road)
                shown = ("so", A, A, chain(), shown)
            if inmost == OPEN:
                self.leaves(NAT_A, [], A, A, road, (goal, A, A))
            else:
                self.shows(NAT_A, [], A, A, road, shown)

    def test_lean_at_the_end(self):
        road = lean(("row", "add", 0), PLAIN)
        for _ in range(10):
            road = ("so", A, A, PLAIN, road)
        found = self.ran(NAT_A, [], add(ZERO, A), A, road).made
        for _ in range(10):
            found = found[4]
        self.assertEqual(found, ("so", A, A, chain(), chain(row("add", 0, b=A), given(10))))

    def test_first_does_not_nest_showings(self):
        road = PLAIN
        for _ in range(11):
            road = first(OPEN, road)
        self.shows(NAT_A, [], A, A, road, chain())


if __name__ == "__main__":
    unittest.main()

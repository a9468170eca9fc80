"""What may be used inside of a showing: what is free, fixed, held and given there: [9] and [11]."""

import unittest

from tests.judging import (
    D, E, F, L, LEAF, M, N, NAT_A, NATS, NONE, R, T, Judging, add, add_zero, after, by_number, fork, given, held, never,
    row, saying,
)
from tests.samples import A, B, C, ZERO, chain, hole, numeral, of


class InAFork(Judging):
    """An induction on t, where t = leaf is the goal, and what may be used where t is a fork of l, m and r."""

    HOLES = {"t": "tree", "n": "nat"}
    GIVENS = [(N, ZERO), (T, LEAF)]

    def in_fork(self, part, givens=None, word="through"):
        """What the judge says: None, or the location behind that case, and the reason."""
        showing = (word, "t", {"leaf": ((), chain()), "fork": (("l", "m", "r"), part)})
        found = self.found(self.HOLES, self.GIVENS if givens is None else givens, T, LEAF, showing)
        if found is None:
            return None
        self.assertEqual(found[0][0], ("case", "fork"))
        return found[0][1:], found[1]

    def test_one_entry_for_each_name_of_the_own_kind(self):
        # The entries say: if n = zero and l = leaf, then l = leaf, for all n; and the same of r.
        inner = [chain(given(0)), chain(given(0))]
        for number, own, other in ((0, (0,), (2,)), (1, (2,), (0,))):
            found = self.in_fork(chain(held(number, own, "on", inner, n=N)))
            self.assertEqual(found, ([("inner", 0, 1), ("step", 0)], "side"))
            for place in (other, (1,), ()):
                found = self.in_fork(chain(held(number, place, "on", inner, n=N)))
                self.assertEqual(found, ([("step", 0)], "side"))
        self.assertEqual(self.in_fork(chain(held(2))), ([("step", 0)], "by"))

    def test_the_givens_and_sides_of_an_entry_are_as_they_were(self):
        givens = [(N, ZERO)]
        self.assertEqual(self.in_fork(chain(
            held(0, (0,), "on", [chain(given(0))], n=N),
            held(1, (2,), "on", [chain(given(0))], n=N),
            held(1, (2,), "back", [chain()], n=ZERO),
        ), givens), ([], "end"))
        # The free hole of the entry stands for any term of its kind, with free and fixed holes.
        for term in (M, after(M), add(M, N)):
            found = self.in_fork(chain(held(0, (0,), "on", [chain()], n=term)), givens)
            self.assertEqual(found, ([("inner", 0, 0)], "end"))

    def test_the_holes_of_an_entry_are_those_that_are_still_free(self):
        for bindings in ({}, {"n": M, "t": LEAF}, {"n": M, "l": LEAF}, {"t": LEAF}, {"n": LEAF}, {"n": T}):
            found = self.in_fork(chain(held(0, (0,), "on", [chain(), chain()], **bindings)))
            self.assertEqual(found, ([("step", 0)], "bindings"))

    def test_the_goal_and_the_givens_of_a_case(self):
        for word in ("through", "split"):
            self.assertIsNone(self.in_fork(chain(given(1)), None, word))
            self.assertIsNone(self.in_fork(never(1), None, word))
            self.assertEqual(self.in_fork(never(0), None, word), ([], "builders"))
            self.assertEqual(self.in_fork(never(2), None, word), ([], "given"))
            part = ("so", fork(L, M, R), LEAF, chain(given(1)), chain(given(2)))
            self.assertIsNone(self.in_fork(part, None, word))

    def test_the_hole_is_there_no_longer(self):
        for word in ("through", "split"):
            for pair in ((T, T), (fork(L, M, R), T)):
                self.assertEqual(self.in_fork(("so", *pair, chain(), chain()), None, word), ([], "kinds"))
            for inner in ("through", "split"):
                self.assertEqual(self.in_fork((inner, "t", {}), None, word), ([], "hole"))

    def test_the_names_are_fixed_holes_of_their_kinds(self):
        for word in ("through", "split"):
            for name, builders in (("l", ["leaf", "fork"]), ("m", ["zero", "next"]), ("r", ["leaf", "fork"])):
                self.assertEqual(self.in_fork(("through", name, {}), None, word), ([], "hole"))
                self.assertEqual(self.in_fork(("split", name, {}), None, word), ([], "cases"))
                cases = {builder: ((), chain()) for builder in builders}
                found = self.in_fork(("split", name, cases), None, word)
                self.assertEqual(found, ([("case", builders[1])], "names"))
            for left, right, good in ((L, LEAF, 1), (M, ZERO, 1), (R, L, 1), (L, ZERO, 0), (M, LEAF, 0), (R, M, 0)):
                found = self.in_fork(("so", left, right, chain(), chain()), None, word)
                self.assertEqual(found, ([("so", 0)], "end") if good else ([], "kinds"))

    def test_other_holes_stay_free(self):
        for word in ("through", "split"):
            for inner in ("through", "split"):
                self.assertEqual(self.in_fork((inner, "n", {}), None, word), ([], "cases"))

    def test_a_case_distinction_holds_nothing_more(self):
        self.assertEqual(self.in_fork(chain(held(0)), None, "split"), ([("step", 0)], "by"))


class Held(Judging):
    def test_entries_come_after_all_others(self):
        # The outer induction holds add d b = c for all b and c, the inner one add (next d) e = c for all c.
        holes = {"a": "nat", "b": "nat", "c": "nat"}
        where = [("case", "next"), ("case", "next")]

        def in_both(*steps):
            inner = by_number("through", "b", chain(given(0)), chain(*steps), "e")
            showing = by_number("through", "a", chain(given(0)), inner)
            return self.found(holes, [(add(A, B), C)], add(A, B), C, showing)

        there = row("add", 1, a=D, b=after(E))
        outer = held(0, (0,), "on", [chain()], b=after(E), c=C)
        self.assertEqual(in_both(there, outer), (where + [("inner", 1, 0)], "end"))
        turned = [
            saying("swap", a=after(D), b=after(E)), row("add", 1, a=E, b=after(D)), saying("swap", (0,), a=E, b=after(D)),
        ]
        inner = held(1, (0,), "on", [chain()], c=C)
        self.assertEqual(in_both(*turned, inner), (where + [("inner", 3, 0)], "end"))
        # The entries have holes of their own.
        self.assertEqual(in_both(held(0, (), "on", [chain()], c=C)), (where + [("step", 0)], "bindings"))
        self.assertEqual(in_both(held(1, (), "on", [chain()], b=E, c=C)), (where + [("step", 0)], "bindings"))
        self.assertEqual(in_both(held(2)), (where + [("step", 0)], "by"))

    def test_no_entry_for_names_of_other_kinds(self):
        m = hole("m")
        for number, why in ((0, "side"), (1, "by")):
            self.slips({"m": "list"}, [], m, m, ("through", "m", {
                "none": ((), chain()), "put": (("x", "y"), chain(held(number))),
            }), [("case", "put"), ("step", 0)], why)
        self.slips({"f": "flag"}, [], F, F, ("through", "f", {
            "yes": ((), chain()), "no": ((), chain(held(0))),
        }), [("case", "no"), ("step", 0)], "by")

    def test_nothing_is_held_elsewhere(self):
        self.slips(NAT_A, [], A, A, chain(held(0)), [("step", 0)], "by")
        showing = by_number("through", "a", chain(held(0)), chain())
        self.slips(NAT_A, [], A, A, showing, [("case", "zero"), ("step", 0)], "by")
        showing = ("so", add(A, ZERO), A, add_zero(), chain(held(0)))
        self.slips(NAT_A, [], A, A, showing, [("so", 1), ("step", 0)], "by")

    def test_fixed_holes_in_an_entry_stay(self):
        # In the case of next d, where d is fixed, the induction on b holds next d = e -> next d = e.
        following = chain(held(0, (), "on", [chain(given(0), given(0, (), "back"))]))
        showing = by_number("split", "a", never(0), by_number("through", "b", never(0), following, "e"))
        where = [("case", "next"), ("case", "next")]
        self.slips(NATS, [(A, after(B))], A, B, by_number("split", "a", chain(given(0)), chain()),
                   [("case", "zero")], "end")
        self.slips(NATS, [(after(A), after(B))], after(A), after(B), by_number(
            "split", "a", chain(given(0)), by_number("through", "b", chain(given(0)), following, "e"),
        ), where + [("inner", 0, 0)], "end")
        self.slips(NATS, [(A, B)], A, B, showing, [("case", "zero")], "builders")
        # d is no hole of the entry.
        following = chain(held(0, (), "on", [chain()], d=D))
        self.slips(NATS, [(A, B)], A, B, by_number(
            "split", "a", chain(given(0)), by_number("through", "b", chain(given(0)), following, "e"),
        ), where + [("step", 0)], "bindings")


class Split(Judging):
    def test_a_fixed_hole_is_replaced_in_the_goal_the_givens_and_the_entries(self):
        # The induction holds add d zero = d, the case distinction makes next e of this d.
        zero = chain(row("add", 1, a=ZERO, b=ZERO), held(0, (0,)))
        following = chain(row("add", 1, a=after(E), b=ZERO), held(0, (0,)))
        showing = by_number("through", "a", chain(row("add", 0, b=ZERO)), by_number("split", "d", zero, following, "e"))
        self.accepted(NAT_A, [], add(A, ZERO), A, showing)
        self.accepted({"b": "nat"}, [(B, ZERO)], B, ZERO, by_number("split", "b", chain(), never(0)))
        showing = by_number("split", "b", chain(), by_number("split", "d", never(0), never(0), "e"))
        self.accepted({"b": "nat"}, [(B, ZERO)], B, ZERO, showing)

    def test_the_givens_of_an_entry(self):
        # What is held says: if d = b, then d = b, for all b. Then d is zero, or next e.
        for part in (ZERO, after(E)):
            use = chain(held(0, (), "on", [chain()], b=part))
            cases = [("so", part, part, use, chain(given(0))), chain(given(0))]
            if part != ZERO:
                cases.reverse()
            showing = by_number("through", "a", chain(given(0)), by_number("split", "d", *cases, "e"))
            self.accepted(NATS, [(A, B)], A, B, showing)

    def test_entries_that_have_the_hole_among_their_own(self):
        # What is held says add d b = add b d for all b, also where b is replaced by next e.
        there = row("add", 1, a=D, b=after(E))
        for bindings, expected in (({"b": after(E)}, "end"), ({"b": ZERO}, "side"), ({}, "bindings")):
            following = chain(there, held(0, (0,), **bindings))
            inner = by_number("split", "b", chain(saying("swap", a=after(D), b=ZERO)), following, "e")
            showing = by_number("through", "a", chain(saying("swap", a=ZERO, b=B)), inner)
            where = [("case", "next"), ("case", "next")] + ([] if expected == "end" else [("step", 1)])
            self.slips(NATS, [], add(A, B), add(B, A), showing, where, expected)

    def test_on_a_free_hole_and_on_a_fixed_one(self):
        self.accepted(NAT_A, [], A, A, by_number("split", "a", chain(), chain()))
        self.accepted(NAT_A, [], A, A, by_number("split", "a", chain(), by_number("split", "d", chain(), chain(), "e")))
        inner = by_number("through", "d", chain(), chain(), "e")
        self.slips(NAT_A, [], A, A, by_number("split", "a", chain(), inner), [("case", "next")], "hole")
        self.slips(NAT_A, [], A, A, by_number("split", "b", chain(), chain()), [], "hole")

    def test_a_fixed_hole_is_there_no_longer(self):
        for word in ("through", "split"):
            for inner, why in ((("split", "d", {}), "hole"), (("so", D, D, chain(), chain()), "kinds")):
                showing = by_number(word, "a", chain(), by_number("split", "d", chain(), inner, "e"))
                self.slips(NAT_A, [], A, A, showing, [("case", "next"), ("case", "next")], why)


class Peel(Judging):
    HOLES = {name: "tree" for name in "lr"} | {name: "nat" for name in "mn"}

    def test_pairs_are_added_after_all_givens(self):
        givens = [(M, M), (fork(L, M, R), fork(R, N, L)), (N, N)]
        for number, pair in ((3, (L, R)), (4, (M, N)), (5, (R, L))):
            self.accepted(self.HOLES, givens, *pair, ("peel", 1, chain(given(number))))
            self.accepted(self.HOLES, givens, pair[1], pair[0], ("peel", 1, chain(given(number, (), "back"))))
        self.slips(self.HOLES, givens, L, R, ("peel", 1, chain(given(6))), [("peel", 0), ("step", 0)], "by")
        # The given itself is still there.
        self.accepted(self.HOLES, givens, fork(L, M, R), fork(R, N, L), ("peel", 1, chain(given(1))))

    def test_twice(self):
        givens = [(after(after(M)), after(after(N)))]
        self.accepted(self.HOLES, givens, M, N, ("peel", 0, ("peel", 1, chain(given(2)))))
        self.accepted(self.HOLES, givens, after(M), after(N), ("peel", 0, ("peel", 1, chain(given(1)))))
        self.accepted(self.HOLES, givens, after(M), after(N), ("peel", 0, ("peel", 0, chain(given(2)))))

    def test_a_builder_that_takes_nothing(self):
        self.slips(self.HOLES, [(LEAF, LEAF)], L, L, ("peel", 0, chain(given(1))), [("peel", 0), ("step", 0)], "by")
        self.accepted(self.HOLES, [(LEAF, LEAF)], L, L, ("peel", 0, chain()))

    def test_the_goal_is_the_same(self):
        self.slips(self.HOLES, [(after(M), after(N))], L, R, ("peel", 0, chain()), [("peel", 0)], "end")


class So(Judging):
    def test_the_pair_is_added_for_the_second_showing_alone(self):
        givens = [(A, ZERO)]
        self.accepted(NATS, givens, after(A), after(ZERO), (
            "so", after(A), after(ZERO), chain(given(0, (0,))), chain(given(1)),
        ))
        for showing, where in (
            (("so", A, ZERO, chain(given(1)), chain()), [("so", 0), ("step", 0)]),
            (("so", A, ZERO, chain(given(0)), chain(given(2))), [("so", 1), ("step", 0)]),
        ):
            self.slips(NATS, givens, B, B, showing, where, "by")

    def test_after_all_givens(self):
        givens = [(A, ZERO), (B, numeral(2))]
        second = ("so", after(A), after(ZERO), chain(given(0, (0,))), chain(given(3)))
        self.accepted(NATS, givens, after(A), after(ZERO), ("so", after(B), numeral(3), chain(given(1, (0,))), second))
        second = ("so", after(A), after(ZERO), chain(given(0, (0,))), chain(given(2)))
        self.slips(NATS, givens, after(A), after(ZERO), ("so", after(B), numeral(3), chain(given(1, (0,))), second),
                   [("so", 1), ("so", 1), ("step", 0)], "side")

    def test_the_first_showing_has_the_pair_as_its_goal(self):
        self.slips(NATS, [], A, A, ("so", A, B, chain(), chain()), [("so", 0)], "end")
        self.slips(NATS, [], A, B, ("so", A, A, chain(), chain()), [("so", 1)], "end")

    def test_in_the_same_context(self):
        # What is held, what is free and what is fixed are there in both showings.
        for at in (0, 1):
            parts = [chain(), chain()]
            parts[at] = by_number("split", "b", chain(), by_number("split", "d", chain(), chain(held(0), held(0)), "f"), "e")
            showing = by_number("through", "a", chain(), ("so", add(B, D), add(B, D), *parts))
            goal = (add(A, ZERO), add(A, ZERO))
            where = [("case", "next"), ("so", at), ("case", "next"), ("case", "next"), ("step", 0)]
            self.slips(NATS, [], *goal, showing, where, "bindings")

    def test_terms_of_any_kind(self):
        m = hole("m")
        self.accepted({"m": "list"}, [], ZERO, ZERO, ("so", m, m, chain(), chain()))
        self.accepted({}, [], ZERO, ZERO, ("so", NONE, NONE, chain(), chain()))


class NewNames(Judging):
    def check(self, showing, where=None):
        self.assertEqual(self.found(NATS, [], B, B, showing), None if where is None else (where, "names"))

    def test_not_heads(self):
        for word in ("through", "split"):
            for name in ("zero", "next", "add", "none", "pick"):
                self.check(by_number(word, "a", chain(), chain(), name), [("case", "next")])

    def test_kinds_and_sayings_may_be_names(self):
        for word in ("through", "split"):
            for name in ("nat", "swap", "case", "hole", "of", "d"):
                self.check(by_number(word, "a", chain(), chain(), name))

    def test_not_free_and_not_fixed_where_it_occurs(self):
        for word in ("through", "split"):
            # The hole itself is still there, too.
            for name in ("a", "b"):
                self.check(by_number(word, "a", chain(), chain(), name), [("case", "next")])
            inner = by_number(word, "b", chain(), chain(), "d")
            self.check(by_number("split", "a", chain(), inner, "d"), [("case", "next")] * 2)
            self.check(by_number("split", "a", inner, chain(), "d"))

    def test_a_hole_that_is_there_no_longer(self):
        for word in ("through", "split"):
            self.check(by_number("split", "a", chain(), by_number(word, "b", chain(), chain(), "a")))
            inner = by_number("split", "d", chain(), by_number(word, "b", chain(), chain(), "d"), "e")
            self.check(by_number("split", "a", chain(), inner))

    def test_not_holes_of_a_held_entry(self):
        # What is held after the induction on a has the hole b, which is then replaced.
        inmost = by_number("split", "e", chain(), chain(), "b")
        inner = by_number("split", "b", chain(), inmost, "e")
        self.check(by_number("through", "a", chain(), inner), [("case", "next")] * 3)
        self.check(by_number("split", "a", chain(), inner))
        # The hole of the induction itself is not among them.
        inmost = by_number("split", "e", chain(), chain(), "a")
        self.check(by_number("through", "a", chain(), by_number("split", "b", chain(), inmost, "e")))

    def test_not_twice(self):
        for names, good in ((("x", "y"), True), (("x", "x"), False)):
            showing = ("split", "m", {"none": ((), chain()), "put": (names, chain())})
            found = self.found({"m": "list"}, [], ZERO, ZERO, showing)
            self.assertEqual(found, None if good else ([("case", "put")], "names"))

    def test_alike_in_two_cases(self):
        self.world = self.world.with_kind("sum", [("one", ("nat",)), ("two", ("nat", "sum")), ("end", ())])
        showing = ("through", "s", {
            "one": (("x",), chain()), "two": (("x", "y"), chain()), "end": ((), chain()),
        })
        self.accepted({"s": "sum"}, [], hole("s"), hole("s"), showing)

    def test_as_many_as_the_builder_takes(self):
        for word in ("through", "split"):
            for names in ((), ("d", "e"), ("d", "e", "f", "g")):
                self.check((word, "a", {"zero": ((), chain()), "next": (names, chain())}), [("case", "next")])
            self.check((word, "a", {"zero": (("d",), chain()), "next": (("e",), chain())}), [("case", "zero")])


if __name__ == "__main__":
    unittest.main()

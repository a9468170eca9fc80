"""Where a showing slips, and why; of several reasons the first one: [11]."""

import unittest

from showhouse.sayings import Saying
from tests.judging import (
    D, F, LEAF, NAT_A, NATS, NO, NONE, YES, Judging, add, after, by_number, flip, given, held, never, row, saying,
)
from tests.samples import A, B, C, ZERO, chain, hole, numeral, of, step

HOLES = {"a": "nat", "b": "nat", "c": "nat", "f": "flag"}
GIVENS = [(A, after(B)), (ZERO, after(A)), (add(A, B), ZERO), (after(A), after(ZERO))]
BAD = chain(held(9))


def tall(count, last=A):
    """The term with `count` heads around another one."""
    for _ in range(count):
        last = after(last)
    return last


def many_holes(count, rest):
    """A term with this many holes called a, and with `rest` heads."""
    term = A
    for _ in range(count - 1):
        term = add(A, term)
    return tall(rest - (count - 1), term)


class Reasons(Judging):
    def whole(self, showing, why):
        """The showing itself slips, wherever it stands."""
        there, again = given(0), given(0, (), "back")
        for whole, where in (
            (showing, []),
            (chain(there, again, saying("cut", (), "on", [showing], a=A, b=B)), [("inner", 2, 0)]),
            (by_number("through", "c", chain(), showing), [("case", "next")]),
            (by_number("split", "c", showing, chain()), [("case", "zero")]),
            (("peel", 3, showing), [("peel", 0)]),
            (("so", A, B, showing, chain()), [("so", 0)]),
            (("so", A, A, chain(), showing), [("so", 1)]),
        ):
            with self.subTest(whole=whole):
                self.slips(HOLES, GIVENS, A, A, whole, where, why)

    def one_step(self, one, why):
        """The step slips, wherever it stands."""
        there, again = given(0), given(0, (), "back")
        for whole, where in (
            (chain(one), [("step", 0)]),
            (chain(there, again, one), [("step", 2)]),
            (("so", A, A, chain(one), BAD), [("so", 0), ("step", 0)]),
            (("so", A, A, chain(), chain(one)), [("so", 1), ("step", 0)]),
        ):
            with self.subTest(whole=whole):
                self.slips(HOLES, GIVENS, A, A, whole, where, why)

    def test_hole(self):
        for word in ("through", "split"):
            for name in ("q", "zero", "nat"):
                self.whole((word, name, {}), "hole")

    def test_hole_ahead_of_cases_and_names(self):
        for word in ("through", "split"):
            self.whole((word, "q", {"zero": ((), BAD)}), "hole")
            self.whole((word, "q", {"zero": (("a",), BAD), "next": ((), BAD)}), "hole")

    def test_cases(self):
        one, two = ((), chain()), (("d",), chain())
        for word in ("through", "split"):
            for cases in (
                {}, {"zero": one}, {"next": two}, {"zero": one, "next": two, "none": one}, {"zero": one, "nat": two},
                {"zero": one, "add": two}, {"yes": one, "no": one}, {"zero": one, "next": two, "q": one},
            ):
                self.whole((word, "a", cases), "cases")

    def test_cases_ahead_of_names_and_parts(self):
        for word in ("through", "split"):
            self.whole((word, "a", {"zero": (("zero",), BAD)}), "cases")
            self.whole((word, "a", {"zero": ((), BAD), "next": ((), chain()), "q": ((), chain())}), "cases")

    def test_names_ahead_of_the_parts_of_all_cases(self):
        for word in ("through", "split"):
            self.slips(NAT_A, [], A, A, by_number(word, "a", BAD, BAD, "a"), [("case", "next")], "names")
            cases = {"zero": (("d",), BAD), "next": (("zero",), BAD)}
            self.slips(NAT_A, [], A, A, (word, "a", cases), [("case", "zero")], "names")

    def test_given(self):
        for number in (5, 999):
            self.whole(("peel", number, chain()), "given")
            self.whole(never(number), "given")
        for givens in ([], GIVENS):
            self.slips(NATS, givens, A, A, never(len(givens)), [], "given")
            self.slips(NATS, givens, A, A, ("peel", len(givens), BAD), [], "given")

    def test_builders(self):
        for number in (0, 1, 2):
            self.whole(("peel", number, BAD), "builders")
        for number in (0, 2, 3):
            self.whole(never(number), "builders")
        for pair in (
            (A, ZERO), (ZERO, A), (A, A), (add(A, B), add(A, B)), (ZERO, add(A, B)), (add(A, B), after(A)), (flip(YES), NO),
        ):
            self.slips(NATS, [pair], A, A, ("peel", 0, BAD), [], "builders")
            self.slips(NATS, [pair], A, A, never(0), [], "builders")
        self.slips(NATS, [(ZERO, ZERO)], A, A, never(0), [], "builders")
        self.slips(NATS, [(after(A), ZERO)], A, A, ("peel", 0, BAD), [], "builders")

    def test_kinds(self):
        for left, right in (
            (A, NONE), (NONE, A), (hole("q"), A), (A, hole("q")), (hole("q"), hole("q")), (of("next"), A),
            (of("q"), of("q")), (YES, LEAF), (after(NONE), A), (hole("zero"), hole("zero")), (of("a"), of("a")),
        ):
            self.whole(("so", left, right, BAD, BAD), "kinds")

    def test_by(self):
        for by in (
            ("row", "add", 2), ("row", "add", 999), ("row", "next", 0), ("row", "nat", 0), ("row", "swap", 0),
            ("row", "a", 0), ("saying", "goal"), ("saying", "add"), ("saying", "q"), ("held", 0), ("held", 999),
            ("given", 5), ("given", 999),
        ):
            self.one_step(step(by), "by")
            # Ahead of all others.
            self.one_step(step(by, "on", (9,), {"q": of("q")}, [BAD]), "by")
        self.slips(NATS, GIVENS, A, A, chain(given(4)), [("step", 0)], "by")

    def test_bindings(self):
        for bindings in (
            {}, {"a": A}, {"b": B}, {"a": A, "b": B, "c": A}, {"a": A, "c": B}, {"a": A, "b": NONE}, {"a": YES, "b": B},
            {"a": A, "b": hole("q")}, {"a": hole("zero"), "b": B}, {"a": A, "b": of("q")}, {"a": A, "b": of("next")},
            {"a": A, "b": F}, {"a": after(F), "b": B}, {"a": of("a"), "b": B},
        ):
            self.one_step(step(("saying", "swap"), "on", (), bindings), "bindings")
            self.one_step(step(("row", "add", 1), "on", (), bindings), "bindings")
        for bindings in ({"a": A}, {"b": ZERO}, {"zero": ZERO}):
            self.one_step(step(("given", 0), "on", (), bindings), "bindings")
        for bindings in ({}, {"a": A}, {"a": A, "b": B}):
            self.one_step(step(("row", "add", 0), "on", (), bindings), "bindings")

    def test_bindings_for_a_held_entry(self):
        start = chain(saying("swap", a=ZERO, b=B))
        for bindings, why in (
            ({}, "bindings"), ({"b": NONE}, "bindings"), ({"b": A}, "bindings"), ({"b": B, "a": A}, "bindings"),
            ({"b": B, "d": D}, "bindings"), ({"d": D}, "bindings"), ({"b": hole("q")}, "bindings"), ({"b": B}, "place"),
        ):
            following = chain(row("add", 1, a=D, b=B), step(("held", 0), "on", (9,), bindings, [BAD]))
            self.slips(NATS, [], add(A, B), add(B, A), by_number("through", "a", start, following),
                       [("case", "next"), ("step", 1)], why)

    def test_bindings_ahead_of_place_side_inner_and_big(self):
        for place in ((), (9,)):
            self.one_step(step(("saying", "swap"), "on", place, {"a": A}, [BAD]), "bindings")
        one = step(("given", 0), "on", (0,) * 40, {"a": A})
        self.slips(NAT_A, [(A, tall(40))], tall(40), A, chain(one), [("step", 0)], "bindings")

    def test_place(self):
        for place in ((0,), (1,), (0, 0), (999,), (0,) * 70):
            self.one_step(given(0, place), "place")
        left = add(after(A), of("pick", A, YES, B))
        for place in ((2,), (0, 1), (0, 0, 0), (1, 3), (1, 1, 0), (1, 2, 0)):
            self.slips(HOLES, GIVENS, left, left, chain(given(0, place)), [("step", 0)], "place")

    def test_place_ahead_of_inner(self):
        self.one_step(step(("given", 0), "on", (0,), {}, [BAD]), "place")
        self.one_step(saying("cut", (0,), "on", [], a=A, b=B), "place")

    def test_side(self):
        self.one_step(given(0, (), "back"), "side")
        self.one_step(given(1), "side")
        self.one_step(row("add", 0, b=A), "side")
        self.one_step(saying("swap", a=A, b=A), "side")
        left = add(A, after(B))
        for one in (
            given(0), given(0, (1,)), given(0, (0,), "back"), given(0, (1, 0)), saying("swap", a=A, b=B),
            saying("swap", a=after(B), b=A), saying("swap", way="back", a=A, b=after(B)), row("add", 1, a=A, b=after(B)),
        ):
            self.slips(HOLES, GIVENS, left, left, chain(one), [("step", 0)], "side")

    def test_side_ahead_of_inner_and_big(self):
        self.one_step(saying("cut", (), "on", [], a=B, b=A), "side")
        self.one_step(step(("given", 1), "on", (), {}, [BAD]), "side")
        self.slips(NATS, [(B, tall(40))], tall(40), A, chain(given(0, (0,) * 40)), [("step", 0)], "side")

    def test_inner(self):
        for count in (0, 2, 3):
            self.one_step(saying("cut", (), "on", [chain()] * count, a=A, b=B), "inner")
        for count in (0, 1, 3):
            self.one_step(saying("trans", (), "on", [chain()] * count, a=A, b=B, c=B), "inner")
        for count in (1, 2):
            self.one_step(step(("given", 0), "on", (), {}, [chain()] * count), "inner")

    def test_inner_ahead_of_big_and_of_the_inner_showings(self):
        self.one_step(saying("cut", (), "on", [BAD] * 2, a=A, b=B), "inner")
        one = step(("given", 0), "on", (0,) * 31, {}, [BAD])
        self.slips(NAT_A, [(A, tall(30))], tall(31), A, chain(one), [("step", 0)], "inner")

    def test_end(self):
        for make, where in (
            (lambda part: part, []), (lambda part: ("peel", 3, part), [("peel", 0)]),
            (lambda part: by_number("split", "c", chain(), part), [("case", "next")]),
            (lambda part: ("so", A, B, part, chain()), [("so", 0)]), (lambda part: ("so", A, A, chain(), part), [("so", 1)]),
        ):
            self.slips(HOLES, GIVENS, A, A, make(chain(given(0))), where, "end")
        self.slips(NATS, [], A, B, chain(), [], "end")
        # The term has to be the same, not only equal.
        self.slips(NATS, [], add(ZERO, A), A, chain(), [], "end")

    def test_end_after_the_steps_and_their_inner_showings(self):
        self.slips(NATS, GIVENS, A, ZERO, chain(given(0), given(9)), [("step", 1)], "by")
        one = saying("cut", (), "on", [chain(given(9))], a=A, b=B)
        self.slips(NATS, GIVENS, A, ZERO, chain(one), [("inner", 0, 0), ("step", 0)], "by")


class Order(Judging):
    def test_steps_one_after_the_other_with_their_inner_showings(self):
        good = saying("cut", (), "on", [chain(given(0))], a=A, b=B)
        bad = saying("cut", (), "back", [chain()], a=A, b=B)
        givens = [(after(A), after(B))]
        self.slips(NATS, givens, A, A, chain(good, bad, given(9)), [("inner", 1, 0)], "end")
        self.slips(NATS, givens, A, A, chain(good, given(9), bad), [("step", 1)], "by")

    def test_inner_showings_in_order(self):
        for first, where, why in (
            (BAD, [("inner", 0, 0), ("step", 0)], "by"),
            (never(3), [("inner", 0, 0)], "given"),
            (chain(), [("inner", 0, 1)], "builders"),
        ):
            one = saying("trans", (), "on", [first, never(0)], a=A, b=A, c=A)
            self.slips(NATS, [(A, A)], A, A, chain(one), where, why)

    def test_cases_in_the_order_of_the_builders(self):
        for word in ("through", "split"):
            for first, second, where, why in (
                (((), BAD), (("d",), BAD), [("case", "zero"), ("step", 0)], "by"),
                (((), chain()), (("d",), BAD), [("case", "next"), ("step", 0)], "by"),
                ((("d",), BAD), (("a",), BAD), [("case", "zero")], "names"),
                (((), BAD), (("a",), BAD), [("case", "next")], "names"),
            ):
                for cases in ({"zero": first, "next": second}, {"next": second, "zero": first}):
                    self.slips(NAT_A, [], A, A, (word, "a", cases), where, why)

    def test_the_two_showings_of_a_so(self):
        self.slips(NAT_A, [], A, A, ("so", A, A, BAD, never(9)), [("so", 0), ("step", 0)], "by")
        self.slips(NAT_A, [], A, A, ("so", A, A, chain(), never(9)), [("so", 1)], "given")

    def test_a_long_location(self):
        inmost = ("so", C, C, chain(), ("peel", 0, chain(given(1), held(0))))
        one = saying("trans", (), "on", [chain(), by_number("split", "b", chain(), inmost, "e")], a=D, b=D, c=D)
        showing = by_number("through", "a", chain(), ("so", D, D, chain(one), chain()))
        holes = {"a": "nat", "b": "nat", "c": "nat"}
        self.slips(holes, [(after(C), after(C))], A, A, showing, [
            ("case", "next"), ("so", 0), ("inner", 0, 1), ("case", "next"), ("so", 1), ("peel", 0), ("step", 0),
        ], "side")


class BigSteps(Judging):
    def test_to_sixty_and_to_sixty_one(self):
        # 29 or 30 heads around a, which becomes a term of 31.
        self.accepted(NAT_A, [(A, tall(30))], tall(29), tall(59), chain(given(0, (0,) * 29)))
        self.slips(NAT_A, [(A, tall(30))], tall(30), tall(59), chain(given(0, (0,) * 30)), [("step", 0)], "big")

    def test_back(self):
        self.accepted(NAT_A, [(tall(30), A)], tall(29), tall(59), chain(given(0, (0,) * 29, "back")))
        self.slips(NAT_A, [(tall(30), A)], tall(30), A, chain(given(0, (0,) * 30, "back")), [("step", 0)], "big")

    def test_holes_that_large_terms_replace(self):
        left = tall(19)
        for count, where, why in ((37, [], "end"), (38, [("step", 0)], "big")):
            one = row("pick", 0, (), "back", a=left, b=tall(count))
            self.slips(NAT_A, [], left, A, chain(one), where, why)

    def test_ahead_of_the_inner_showings(self):
        for count, where, why in ((58, [("inner", 0, 1), ("step", 0)], "by"), (59, [("step", 0)], "big")):
            one = saying("trans", (0,), "on", [chain(), BAD], a=A, b=A, c=tall(count))
            self.slips(NAT_A, [], after(A), A, chain(one), where, why)


class BigShowings(Judging):
    def test_the_goal_of_an_inner_showing(self):
        # next a has 60 holes and heads, and then 61.
        for count, why in ((58, "given"), (59, "big")):
            one = saying("cut", (), "on", [never(9)], a=tall(count), b=ZERO)
            self.slips(NAT_A, [], tall(count), ZERO, chain(one), [("inner", 0, 0)], why)
            one = saying("cut", (), "on", [never(9)], a=ZERO, b=tall(count))
            self.slips(NAT_A, [], ZERO, ZERO, chain(one), [("inner", 0, 0)], why)

    def test_a_second_inner_showing_comes_after_the_first(self):
        self.world = self.world.with_saying(Saying("odd", NATS, [(A, A), (after(B), after(B))], A, A))
        for first, where, why in (
            (chain(), [("inner", 0, 1)], "big"), (BAD, [("inner", 0, 0), ("step", 0)], "by"),
        ):
            one = saying("odd", (), "on", [first, never(9)], a=A, b=tall(59))
            self.slips(NAT_A, [], A, A, chain(one), where, why)

    def test_the_goal_of_a_case(self):
        # Each of five holes becomes next d: 60 holes and heads, and then 61.
        for rest, why in ((50, "given"), (51, "big")):
            term = many_holes(5, rest)
            for word in ("through", "split"):
                for goal in ((term, ZERO), (ZERO, term)):
                    showing = by_number(word, "a", never(0), never(9))
                    self.slips(NAT_A, [(ZERO, numeral(2))], *goal, showing, [("case", "next")], why)

    def test_a_given_of_a_case(self):
        for rest, why in ((50, "given"), (51, "big")):
            term = many_holes(5, rest)
            for word in ("through", "split"):
                for given_pair in ((term, ZERO), (ZERO, term)):
                    for givens in ([given_pair], [(ZERO, ZERO), given_pair]):
                        showing = by_number(word, "a", chain(), never(9))
                        self.slips(NAT_A, givens, ZERO, ZERO, showing, [("case", "next")], why)

    def test_a_held_entry(self):
        # In the entry each of five holes becomes next e, and then next (next f).
        for rest, why in ((45, "given"), (46, "big")):
            term = many_holes(5, rest)
            for goal in ((term, ZERO), (ZERO, term)):
                twice = by_number("split", "d", chain(), by_number("split", "e", chain(), never(9), "f"), "e")
                showing = by_number("through", "a", never(0), ("so", ZERO, ZERO, twice, chain()))
                self.slips(NAT_A, [(ZERO, numeral(2))], *goal, showing,
                           [("case", "next"), ("so", 0), ("case", "next"), ("case", "next")], why)

    def test_ahead_of_all_other_conditions(self):
        term = many_holes(5, 51)
        for word in ("through", "split"):
            for part in (
                chain(), BAD, never(9), ("peel", 9, chain()), ("through", "q", {}), ("split", "d", {}),
                ("split", "d", {"zero": ((), chain()), "next": (("d",), chain())}), ("so", A, NONE, chain(), chain()),
            ):
                self.slips(NAT_A, [(ZERO, numeral(2))], term, ZERO, by_number(word, "a", never(0), part),
                           [("case", "next")], "big")

    def test_behind_the_conditions_and_the_cases_ahead_of_it(self):
        term = many_holes(5, 51)
        for word in ("through", "split"):
            self.slips(NAT_A, [], term, ZERO, by_number(word, "a", BAD, chain()), [("case", "zero"), ("step", 0)], "by")
            showing = by_number(word, "a", BAD, chain(), "a")
            self.slips(NAT_A, [], term, ZERO, showing, [("case", "next")], "names")


if __name__ == "__main__":
    unittest.main()

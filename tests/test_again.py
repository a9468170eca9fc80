"""Who is judged again when a book changes: [21]."""

import unittest

from showhouse.sayings import Saying
from tests.booking import (
    ADD, BY_HELD, FIRST, FLAGS, KIND, LISTS, OPENED, base, by_saying, commutes, commutes_by_road, judged_again, say, shift,
    sums,
)
from tests.judging import D, NAT_A, NATS, NO, NONE, YES, add, add_zero, after, flip, given, held, row, saying
from tests.roading import PLAIN, seek, through
from tests.samples import A, ADD_ROWS, B, C, LIST, NAT, ZERO, chain, hole, of

FLIP = ("operator", "flip", ("flag",), "flag", [(flip(YES), NO), (flip(NO), YES)])
TURNED_NAT = ("kind", "nat", [NAT[1], NAT[0]])
OTHER_ADD = ("operator", "add", ("nat", "nat"), "nat", [
    (add(ZERO, hole("y")), hole("y")), (add(after(hole("x")), hole("y")), after(add(hole("x"), hole("y")))),
])


def word(name):
    """A saying that says nothing else than its name."""
    return say(name, {}, [], ZERO, ZERO, chain())


class Again(unittest.TestCase):
    def again(self, before, entries, *names):
        self.assertEqual(judged_again(self, before, entries), list(names))

    def behind(self, entry, *names):
        """The entry is judged again if any of these names gets a statement ahead of it, or loses it."""
        name = entry[1].name()
        for other in names:
            with self.subTest(name=other):
                self.again([KIND, ADD, entry], [KIND, ADD, word(other), entry], other, name)
                self.again([KIND, ADD, word(other), entry], [KIND, ADD, entry], name)

    def not_behind(self, entry, *names):
        for other in names:
            with self.subTest(name=other):
                self.again([KIND, ADD, entry], [KIND, ADD, word(other), entry], other)
                self.again([KIND, ADD, word(other), entry], [KIND, ADD, entry])


class Entries(Again):
    def test_nothing_changes(self):
        self.again(sums(), sums())
        self.again([], [])

    def test_what_is_new(self):
        self.again([], sums(), "base", "shift", "swap")
        self.again(sums()[:3], sums(), "shift", "swap")
        self.again([KIND, ADD], [KIND, ADD, base(chain())], "base")

    def test_what_is_different(self):
        self.again([*FIRST, base()], [*FIRST, base(chain())], "base")
        self.again([*FIRST, base()], [*FIRST, base(("road", through("a", PLAIN, BY_HELD)))], "base")
        self.again([*FIRST, base(OPENED)], [*FIRST, base(("road", PLAIN))], "base")
        one = say("s", NATS, [], A, A, chain())
        for other in (
            say("s", {"b": "nat", "a": "nat"}, [], A, A, chain()), say("s", NAT_A, [], A, A, chain()),
            say("s", NATS, [(A, B)], A, A, chain()), say("s", NATS, [], B, A, chain()), say("s", NATS, [], A, B, chain()),
        ):
            self.again([*FIRST, one], [*FIRST, other], "s")
            self.again([*FIRST, other], [*FIRST, one], "s")
        self.again([*FIRST, one], [*FIRST, say("t", NATS, [], A, A, chain())], "t")

    def test_what_was_another_entry_of_this_name(self):
        late = ("kind", "s", [("ess", ())])
        self.again([*FIRST, late], [*FIRST, say("s", {}, [], ZERO, ZERO, chain())], "s")
        self.again([*FIRST, say("s", {}, [], ZERO, ZERO, chain())], [*FIRST, late])

    def test_dicts_in_another_order_make_no_difference(self):
        showing = add_zero()
        turned = showing[:2] + ({builder: showing[2][builder] for builder in ("next", "zero")},)
        self.again([*FIRST, base(showing)], [*FIRST, base(turned)])
        for before, entries in ((showing, turned), (turned, showing)):
            house_entries = [*FIRST, base(entries)]
            self.again([*FIRST, base(before)], house_entries)
        bindings = chain(row("add", 1, a=ZERO, b=A))
        other = chain(row("add", 1, b=A, a=ZERO))
        self.again([*FIRST, say("s", NAT_A, [], add(after(ZERO), A), after(add(ZERO, A)), bindings)],
                   [*FIRST, say("s", NAT_A, [], add(after(ZERO), A), after(add(ZERO, A)), other)])

    def test_another_place(self):
        one, other = word("one"), base()
        self.again([*FIRST, one, other], [*FIRST, other, one])
        self.again([*FIRST, one, other, LISTS], [*FIRST, LISTS, other, one])
        self.again([*FIRST, base(), shift(OPENED), commutes()], [*FIRST, shift(OPENED), base(), commutes()], "shift")

    def test_a_place_ahead_of_what_is_needed(self):
        self.again([*FIRST, base(), by_saying("by", "base")], [*FIRST, by_saying("by", "base"), base()], "by")
        self.again([*FIRST, by_saying("by", "base"), base()], [*FIRST, base(), by_saying("by", "base")], "by")
        self.again([KIND, ADD, base()], [KIND, base(), ADD])
        self.again([KIND, base(), ADD], [KIND, ADD, base()], "base")

    def test_what_was_not_good(self):
        bad = base()
        self.again([KIND, bad], [KIND, ADD, bad], "base")
        self.again([KIND, ADD, bad], [KIND, bad])
        self.again([bad], [KIND, ADD, bad], "base")
        # It is judged again although the world before it states the same about its names.
        entry = say("s", {"a": "nat"}, [], A, A, chain())
        late = ("operator", "a", (), "nat", [(of("a"), ZERO)])
        self.again([KIND, late, entry], [KIND, entry, late], "s")
        self.again([KIND, entry, late], [KIND, late, entry])

    def test_what_it_goes_by_is_shown_otherwise(self):
        by = by_saying("by", "base")
        self.again([*FIRST, base(), by], [*FIRST, base(OPENED), by], "base")
        self.again([*FIRST, base(OPENED), by], [*FIRST, base(), by], "base")
        self.again([*FIRST, base(chain()), by], [*FIRST, base(), by], "base")

    def test_several_deeds_together(self):
        self.again(sums(), [("kind", "list", LIST[:1]), *sums()[:-1], base(name="other")], "shift", "other")
        self.again(sums(), [KIND, OTHER_ADD, base(chain()), shift(), commutes()], "base", "shift", "swap")


class Statements(Again):
    """What the world before states about names: something else, nothing, or something for the first time."""

    def test_a_kind_and_its_builders(self):
        entry = say("s", {"m": "list"}, [], hole("m"), hole("m"), chain())
        for kind in (
            ("kind", "list", [LIST[1], LIST[0]]), ("kind", "list", [LIST[0]]), ("kind", "list", [("nil", ()), LIST[1]]),
            ("kind", "list", [LIST[0], ("put", ("list", "nat"))]), ("kind", "list", LIST + [("more", ())]),
        ):
            self.again([KIND, LISTS, entry], [KIND, kind, entry], "s")
            self.again([KIND, kind, entry], [KIND, LISTS, entry], "s")
        # What the other kinds are like does not matter for it, nor does the order of the kinds.
        self.again([KIND, LISTS, entry], [TURNED_NAT, LISTS, entry])
        self.again([FLAGS, KIND, LISTS, entry], [KIND, LISTS, FLAGS, entry])
        self.again([FLAGS, KIND, LISTS, entry], [KIND, LISTS, entry])

    def test_the_kind_of_a_builder(self):
        entry = say("s", {}, [], NONE, NONE, chain())
        self.again([KIND, LISTS, entry], [KIND, ("kind", "list", [LIST[1], LIST[0]]), entry], "s")
        self.again([KIND, LISTS, entry], [KIND, ("kind", "line", LIST[:1]), entry], "s")
        self.again([KIND, ("kind", "list", LIST[:1]), entry], [KIND, ("kind", "line", LIST[:1]), entry], "s")
        self.again([KIND, LISTS, entry], [TURNED_NAT, LISTS, entry])

    def test_an_operator_with_all_its_parts(self):
        goal = say("s", {}, [], of("one", ZERO), of("one", ZERO), chain())
        one = ("operator", "one", ("nat",), "nat", [(of("one", A), A)])
        for other in (
            ("operator", "one", ("nat",), "nat", [(of("one", B), B)]), ("operator", "one", ("nat",), "nat", [(of("one", A), ZERO)]),
            ("operator", "one", ("nat",), "nat", [(of("one", ZERO), ZERO), (of("one", after(A)), A)]),
        ):
            self.again([KIND, one, goal], [KIND, other, goal], "s")
            self.again([KIND, other, goal], [KIND, one, goal], "s")
        two = ("operator", "one", ("nat",), "nat", [(of("one", ZERO), ZERO), (of("one", after(A)), A)])
        turned = ("operator", "one", ("nat",), "nat", list(reversed(two[4])))
        self.again([KIND, two, goal], [KIND, turned, goal], "s")
        self.again([KIND, FLAGS, two, FLIP, goal], [KIND, FLAGS, FLIP, two, goal])

    def test_what_an_operator_takes_and_gives(self):
        lists = ("kind", "line", [("zero", ())])
        entry = say("s", {}, [], of("one"), of("one"), chain())
        one = ("operator", "one", (), "nat", [(of("one"), of("one")[:1] + ("zero", ()))])
        other = ("operator", "one", (), "line", one[4])
        self.again([KIND, one, entry], [lists, other, entry], "s")
        takes = say("s", NAT_A, [], of("one", A), of("one", A), chain(row("one", 0, a=A), row("one", 0, way="back", a=A)))
        nats = ("operator", "one", ("nat",), "flag", [(of("one", A), YES)])
        flags = ("operator", "one", ("flag",), "flag", [(of("one", A), YES)])
        self.again([KIND, FLAGS, nats, takes], [KIND, FLAGS, flags, takes])
        self.again([KIND, FLAGS, flags, takes], [KIND, FLAGS, nats, takes], "s")

    def test_the_kinds_of_the_holes_of_rows(self):
        # The rows stay the same, and so does what the operator takes; but what is in the box has another kind.
        first = ("kind", "box", [("empty", ()), ("full", ("nat",))])
        second = ("kind", "box", [("empty", ()), ("full", ("flag",))])
        operator = ("operator", "drop", ("box",), "flag", [(of("drop", of("empty")), YES), (of("drop", of("full", A)), YES)])
        entry = say("s", {}, [], YES, YES, chain(row("drop", 0, way="back"), row("drop", 0)))
        self.again([KIND, FLAGS, first, operator, entry], [KIND, FLAGS, second, operator, entry], "s")
        # The order of the builders is not a part of the operator.
        turned = ("kind", "box", [first[2][1], first[2][0]])
        self.again([KIND, FLAGS, first, operator, entry], [KIND, FLAGS, turned, operator, entry])

    def test_a_kind_that_only_an_operator_mentions(self):
        # Neither the box nor its builders are in the entry; the operator states the same.
        first = ("kind", "box", [("empty", ()), ("full", ("nat",))])
        turned = ("kind", "box", [first[2][1], first[2][0]])
        operator = ("operator", "drop", ("box",), "flag", [(of("drop", A), YES)])
        goal = say("s", {"a": "flag"}, [], hole("a"), hole("a"), chain(
            row("keep", 0, way="back", a=hole("a")), row("keep", 0, a=hole("a"))))
        keep = ("operator", "keep", ("flag",), "flag", [(of("keep", A), A)])
        self.again([KIND, FLAGS, first, operator, keep, goal], [KIND, FLAGS, turned, operator, keep, goal])

    def test_a_saying_with_holes_givens_and_sides(self):
        by = by_saying("by", "base")
        for other in (
            say("base", {"b": "nat"}, [], add(B, ZERO), B), say("base", NATS, [], add(A, ZERO), A),
            say("base", {"a": "nat"}, [(A, A)], add(A, ZERO), A), say("base", NAT_A, [], A, A),
            say("base", NAT_A, [], add(A, ZERO), add(A, ZERO)),
        ):
            self.again([*FIRST, base(), by], [*FIRST, other, by], "base", "by")
            self.again([*FIRST, other, by], [*FIRST, base(), by], "base", "by")
        one, other = say("t", NATS, [], A, A, chain()), say("t", {"b": "nat", "a": "nat"}, [], A, A, chain())
        by = say("by", NATS, [], A, A, chain(saying("t", a=A, b=B)))
        self.again([*FIRST, one, by], [*FIRST, other, by], "t", "by")
        self.again([*FIRST, one, by], [*FIRST, by], "by")
        self.again([*FIRST, by], [*FIRST, one, by], "t", "by")

    def test_a_saying_of_the_name_that_is_not_good(self):
        by = by_saying("by", "base")
        bad = say("base", NAT_A, [], add(A, ZERO), B)
        self.again([*FIRST, base(), by], [*FIRST, bad, by], "by")
        self.again([*FIRST, bad, by], [*FIRST, by])


class Names(Again):
    """For each place in which a name may stand."""

    def test_holes(self):
        self.behind(say("s", {"m": "nat", "n": "nat"}, [], ZERO, ZERO, chain()), "m", "n")
        self.not_behind(say("s", {"m": "nat"}, [], ZERO, ZERO, chain()), "n", "o")

    def test_kinds_of_holes(self):
        # The kind is in the entry by the hole alone.
        entry = say("s", {"m": "list"}, [], ZERO, ZERO, chain())
        self.again([KIND, LISTS, entry], [KIND, ("kind", "list", LIST[:1]), entry], "s")

    def test_heads_of_its_terms(self):
        for entry in (
            say("s", {}, [(flip(YES), flip(YES))], ZERO, ZERO, chain()), say("s", {}, [(YES, flip(YES))], ZERO, ZERO, chain()),
            say("s", {}, [(NO, NO), (flip(flip(YES)), YES)], ZERO, ZERO, chain()), say("s", {}, [], flip(YES), NO, chain()),
            say("s", {}, [], NO, flip(YES), chain()),
        ):
            turned = (*FLIP[:4], list(reversed(FLIP[4])))
            self.again([KIND, FLAGS, FLIP, entry], [KIND, FLAGS, turned, entry], "s")
            self.again([KIND, FLAGS, FLIP, entry], [KIND, ("kind", "flag", [("no", ()), ("yes", ())]), FLIP, entry], "s")
        self.again([KIND, FLAGS, FLIP, word("s")], [KIND, FLAGS, turned, word("s")])

    def test_heads_of_its_showing(self):
        # By the terms for which holes are bound, and by the sides of so.
        turned = (*FLIP[:4], list(reversed(FLIP[4])))
        same = say("same", {"m": "flag"}, [], hole("m"), hole("m"), chain())
        by = chain(saying("same", m=flip(YES)))
        for showing in (
            by, ("so", flip(YES), flip(YES), chain(), chain()), ("so", YES, flip(NO), chain(), chain()),
            ("so", ZERO, ZERO, by, chain()), ("so", ZERO, ZERO, chain(), by), ("peel", 0, by),
            ("split", "a", {"zero": ((), by)}), ("through", "a", {"zero": ((), chain()), "next": (("n",), by)}),
            chain(saying("what", inner=[chain(), by])), chain(saying("what", m=flip(YES))),
        ):
            entry = say("s", {"a": "nat"}, [(ZERO, ZERO)], ZERO, ZERO, showing)
            self.again([KIND, FLAGS, FLIP, same, entry], [KIND, FLAGS, turned, same, entry], "s")

    def test_holes_in_the_terms_of_its_showing(self):
        self.behind(say("s", NAT_A, [], A, A, chain(saying("what", m=hole("n")))), "what", "m", "n")
        self.behind(say("s", NAT_A, [], A, A, ("so", hole("n"), hole("o"), chain(), chain())), "n", "o")
        self.behind(say("s", NAT_A, [], A, A, chain(saying("what", m=add(ZERO, after(hole("n")))))), "n")

    def test_names_by_which_steps_go(self):
        entry = say("s", NAT_A, [], A, A, chain(row("flip", 0), saying("by"), held(0), given(0)))
        self.behind(entry, "flip", "by")
        self.not_behind(entry, "row", "saying", "held", "given", "on", "chain", "back", "at", "with")
        # A name states whatever bears it.
        self.again([KIND, entry], [KIND, FLAGS, FLIP, entry], "s")
        self.again([KIND, entry], [KIND, ("kind", "by", [("byone", ())]), entry], "s")
        self.again([KIND, entry], [KIND, ("kind", "other", [("by", ())]), entry], "s")
        inner = say("s", NAT_A, [], A, A, chain(saying("one", inner=[chain(saying("two")), chain(row("three", 0))])))
        self.behind(inner, "one", "two", "three")

    def test_bound_names(self):
        self.behind(say("s", NAT_A, [], A, A, chain(held(0, m=A, n=A), given(0))), "m", "n")
        self.behind(say("s", NAT_A, [], A, A, chain(held(0, inner=[chain(row("add", 0, n=A))]))), "n")

    def test_holes_of_through_and_split(self):
        self.behind(say("s", NAT_A, [], A, A, ("through", "m", {})), "m")
        self.behind(say("s", NAT_A, [], A, A, ("split", "m", {})), "m")
        self.behind(say("s", NAT_A, [], A, A, ("peel", 0, ("split", "m", {}))), "m")
        self.not_behind(say("s", NAT_A, [], A, A, ("peel", 0, ("split", "m", {}))), "peel", "split", "n")

    def test_builders_of_cases(self):
        for letters in ("through", "split"):
            entry = say("s", {}, [], ZERO, ZERO, (letters, "m", {"one": ((), chain()), "two": ((), chain())}))
            self.behind(entry, "m", "one", "two")
            self.not_behind(entry, "case", "through", "split", "three")
            self.again([KIND, entry], [KIND, ("kind", "other", [("one", ())]), entry], "s")

    def test_new_names_of_cases(self):
        for letters in ("through", "split"):
            cases = {"zero": ((), chain()), "next": (("n",), (letters, "n", {"zero": (("o", "p"), chain())}))}
            entry = say("s", NAT_A, [], A, A, (letters, "a", cases))
            self.behind(entry, "a", "n", "o", "p")
        # It makes a difference whether a new name is a head.
        cases = {"zero": ((), chain()), "next": (("n",), chain())}
        entry = say("s", NAT_A, [], A, A, ("split", "a", cases))
        self.again([KIND, entry], [KIND, ("kind", "other", [("n", ())]), entry], "s")

    def test_its_own_name_by_itself_does_not_count(self):
        entry = say("zero", NAT_A, [], A, A, chain())
        self.again([KIND, entry], [TURNED_NAT, entry], "zero")
        other = ("kind", "other", [("named", ())])
        entry = say("named", NAT_A, [], A, A, chain())
        self.again([KIND, entry], [KIND, other, entry])
        self.again([KIND, other, entry], [KIND, entry])
        # But it counts where it stands.
        for showing in (chain(saying("named")), ("split", "named", {})):
            entry = say("named", NAT_A, [], A, A, showing)
            self.again([KIND, entry], [KIND, other, entry], "named")


class Roads(Again):
    def test_any_change_of_the_world_before_counts(self):
        entry = shift()
        self.again([*FIRST, entry], [*FIRST, LISTS, entry], "shift")
        self.again([*FIRST, LISTS, entry], [*FIRST, entry], "shift")
        self.again([*FIRST, FLAGS, FLIP, entry], [*FIRST, FLAGS, entry], "shift")
        self.again([*FIRST, entry], [*FIRST, word("other"), entry], "other", "shift")
        self.again([KIND, LISTS, ADD, entry], [LISTS, KIND, ADD, entry], "shift")
        self.again([KIND, FLAGS, LISTS, ADD, entry], [KIND, LISTS, FLAGS, ADD, entry], "shift")

    def test_what_does_not_change_the_world_before(self):
        entry = shift()
        self.again([*FIRST, entry], [*FIRST, entry, LISTS])
        self.again([*FIRST, entry], [*FIRST, ("kind", "list", []), entry])
        self.again([*FIRST, base(), entry], [*FIRST, base(OPENED), entry], "base")
        self.again([*FIRST, base(), entry], [*FIRST, base(("road", through("a", PLAIN, BY_HELD))), entry], "base")
        turned = add_zero()[:2] + ({builder: add_zero()[2][builder] for builder in ("next", "zero")},)
        self.again([*FIRST, base(), entry], [*FIRST, base(turned), entry])

    def test_what_a_road_seeks(self):
        by_road = base(("road", seek("base")), "other")
        self.again([*FIRST, base(OPENED), by_road], [*FIRST, base(), by_road], "base")
        self.again([*FIRST, base(), commutes_by_road()], [*FIRST, base(), shift(), commutes_by_road()], "shift", "swap")
        self.again([*sums()[:-1], commutes_by_road()], [*FIRST, shift(), base(), commutes_by_road()], "shift", "swap")

    def test_another_road(self):
        self.again([*FIRST, shift()], [*FIRST, shift(("road", PLAIN))], "shift")

    def test_a_road_that_was_not_good(self):
        self.again([KIND, shift()], [KIND, ADD, shift()], "shift")


class Order(Again):
    def test_names_are_in_the_order_of_the_new_book(self):
        entries = [word("c"), word("a"), word("b")]
        self.again([KIND], [KIND, *entries], "c", "a", "b")
        self.again([KIND, *[say(name, NAT_A, [], ZERO, ZERO, chain()) for name in "abc"]], [KIND, *entries], "c", "a", "b")

    def test_the_same_saying_in_other_words(self):
        one = ("say", Saying("s", NATS, [(A, B)], A, B), chain(given(0)))
        other = ("say", Saying("s", {"a": "nat", "b": "nat"}, [(A, B)], A, B), chain(given(0)))
        self.again([KIND, one], [KIND, other])
        self.assertEqual((ADD_ROWS, C, D), (ADD[4], hole("c"), hole("d")))


if __name__ == "__main__":
    unittest.main()

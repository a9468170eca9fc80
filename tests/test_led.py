"""Transfer of books: [24]."""

import unittest

from showhouse.books import Book
from showhouse.errors import BadName
from showhouse.leading import Lame, Led, led, likeness
from showhouse.sayings import Saying
from tests.booking import (
    ADD, FIRST, FLAGS, KIND, LISTS, OPENED, base, by_saying, commutes, say, shift, sums, told,
)
from tests.judging import NAT_A, NATS, add, add_zero, after, given, held, row, saying
from tests.samples import A, B, C, NO_NAMES, ZERO, chain, hole, of

NULL = of("null")
X, Y = hole("x"), hole("y")
NUM = ("kind", "num", [("null", ()), ("succ", ("num",))])


def succ(term):
    return of("succ", term)


def plus(one, other):
    return of("plus", one, other)


PLUS = ("operator", "plus", ("num", "num"), "num", [(plus(NULL, Y), Y), (plus(succ(X), Y), succ(plus(X, Y)))])
THERE = [NUM, PLUS]
NAMES = ({"nat": "num"}, {"zero": "null", "next": "succ", "add": "plus"})
SAME = ({"nat": "nat"}, {"zero": "zero", "next": "next", "add": "add"})
BASE_THERE = ("through", "a", {
    "null": ((), chain(row("plus", 0, y=NULL))),
    "succ": (("c",), chain(row("plus", 1, x=C, y=NULL), held(0, (0,)))),
})


def num_base(means=None, name="base", a="a"):
    return say(name, {a: "num"}, [], plus(hole(a), NULL), hole(a), BASE_THERE if means is None else means)


class Leading(unittest.TestCase):
    def leads(self, entries, there, names, more, by_names):
        """The sayings are led over, and these entries are appended."""
        book, other = Book(entries), Book(there)
        found = led(book, other, names)
        self.assertIsInstance(found, Led)
        self.assertIsInstance(found.there, Book)
        self.assertEqual(found.there.entries(), there + more)
        self.assertEqual(found.by_names, by_names)
        self.assertEqual(list(found.by_names), list(by_names))
        self.assertEqual(told(found.there), told(Book(there + more)))
        self.assertEqual((book, other), (Book(entries), Book(there)))
        return found.there

    def lame(self, entries, there, names, called):
        found = led(Book(entries), Book(there), names)
        self.assertIsInstance(found, Lame)
        self.assertEqual(found.called, called)


class Renamed(Leading):
    def test_nothing_to_lead(self):
        self.leads(FIRST, THERE, NAMES, [], {})
        self.leads([], [], ({}, {}), [], {})
        self.leads([], THERE, ({}, {}), [], {})

    def test_heads_and_kinds_in_sayings_and_showings(self):
        made = self.leads([*FIRST, base()], THERE, NAMES, [num_base()], {"base": "base"})
        self.assertEqual(made.states()[-1], ("base", "holds"))

    def test_all_sorts_of_showings(self):
        showing = ("so", add(A, ZERO), after(A), (
            "split", "a", {"zero": ((), ("never", 0)), "next": (("c",), ("peel", 1, chain(given(0))))}), chain())
        entry = say("s", NATS, [(add(ZERO, A), after(B)), (after(A), ZERO)], A, B, ("never", 1))
        self.leads([*FIRST, entry], THERE, NAMES, [
            say("s", {"a": "num", "b": "num"}, [(plus(NULL, A), succ(B)), (succ(A), NULL)], A, B, ("never", 1))], {"s": "s"})
        showing = ("peel", 0, ("so", add(ZERO, A), B, chain(row("add", 0, b=A), given(2)), chain(
            row("add", 0, way="back", b=A), given(3))))
        there = ("peel", 0, ("so", plus(NULL, A), B, chain(row("plus", 0, y=A), given(2)), chain(
            row("plus", 0, way="back", y=A), given(3))))
        entry = say("s", NATS, [(after(A), after(B)), (ZERO, ZERO)], A, B, showing)
        self.leads([*FIRST, entry], THERE, NAMES, [
            say("s", {"a": "num", "b": "num"}, [(succ(A), succ(B)), (NULL, NULL)], A, B, there)], {"s": "s"})

    def test_what_a_road_has_shown(self):
        book = Book([*FIRST, shift()])
        found = led(book, Book(FIRST), SAME)
        self.assertEqual(found.there.entries(), [*FIRST, shift(book.showing("shift"))])

    def test_inner_showings(self):
        cut = say("cut", NATS, [(after(A), after(B))], A, B, ("peel", 0, chain(given(1))))
        inner = chain(row("add", 0, (0,), b=A))
        by = say("by", NAT_A, [], add(ZERO, A), A, chain(saying("cut", inner=[inner], a=add(ZERO, A), b=A)))
        made = led(Book([*FIRST, cut, by]), Book(THERE), NAMES).there
        self.assertEqual(made.showing("by"), chain(
            saying("cut", inner=[chain(row("plus", 0, (0,), y=A))], a=plus(NULL, A), b=A)))
        self.assertEqual(made.states()[2:], [("cut", "holds"), ("by", "holds")])

    def test_the_holes_of_a_row_are_those_of_the_other_book(self):
        # Here the holes of the other book have the names of other holes of the row.
        turned = ("operator", "add", ("nat", "nat"), "nat", [
            (add(ZERO, A), A), (add(after(B), A), after(add(B, A)))])
        one = say("s", NATS, [], add(after(A), B), after(add(A, B)), chain(row("add", 1, a=A, b=B)))
        found = led(Book([*FIRST, one]), Book([KIND, turned]), SAME).there
        self.assertEqual(found.showing("s"), chain(row("add", 1, b=A, a=B)))
        self.assertEqual(list(found.showing("s")[1][0][3]), ["b", "a"])
        self.assertEqual(found.states()[-1], ("s", "holds"))

    def test_the_order_of_dicts(self):
        showing = add_zero()
        turned = showing[:2] + ({builder: showing[2][builder] for builder in ("next", "zero")},)
        found = led(Book([*FIRST, base(turned)]), Book(THERE), NAMES).there
        self.assertEqual(list(found.showing("base")[2]), ["succ", "null"])

    def test_all_sayings_that_hold_in_order(self):
        book = [*sums(), LISTS]
        there = [FLAGS, *THERE, LISTS[:1] + ("list", [("none", ()), ("put", ("num", "list"))])]
        names = ({"nat": "num", "list": "list"}, {**NAMES[1], "none": "none", "put": "put"})
        found = led(Book(book), Book(there), names)
        self.assertEqual(found.by_names, {name: name for name in ("base", "shift", "swap")})
        self.assertEqual(found.there.states()[4:], [(name, "holds") for name in ("base", "shift", "swap")])

    def test_none_that_does_not_hold(self):
        book = [*FIRST, base(OPENED), base(chain(), "slips"), by_saying("leans", "base"), say("bad", {}, [], A, A),
                base(name="good"), by_saying("other", "good")]
        by = num_base(chain(saying("good", a=A)), "other")
        # The second one states the same as the first one, so that it is not added.
        self.leads(book, THERE, NAMES, [num_base(name="good")], {"good": "good", "other": "good"})
        self.assertEqual(by[1].name(), "other")

    def test_there_and_back(self):
        book = Book(sums())
        there = led(book, Book(THERE), NAMES).there
        back = led(there, Book(FIRST), ({"num": "nat"}, {"null": "zero", "succ": "next", "plus": "add"})).there
        self.assertEqual(told(back), told(Book([*FIRST, base(), shift(book.showing("shift")), commutes()])))


class Names(Leading):
    def test_a_name_that_is_there_already(self):
        other = say("base", {}, [], NULL, NULL, chain())
        made = self.leads([*FIRST, base()], [*THERE, other], NAMES, [num_base(name="basex")], {"base": "basex"})
        self.assertEqual(made.states()[-1], ("basex", "holds"))

    def test_several_times(self):
        others = [say(name, {}, [], NULL, NULL, chain()) for name in ("base", "basex", "basexx")]
        self.leads([*FIRST, base()], [*THERE, *others], NAMES, [num_base(name="basexxx")], {"base": "basexxx"})

    def test_names_of_other_entries(self):
        # A kind, an operator, and a saying that is not good there.
        for other in (("kind", "base", [("bb", ())]), ("operator", "base", (), "num", [(of("base"), NULL)]),
                      say("base", {}, [], X, X), ("kind", "base", [])):
            self.leads([*FIRST, base()], [*THERE, other], NAMES, [num_base(name="basex")], {"base": "basex"})
        # A builder's name is none of an entry.
        other = ("kind", "flag", [("base", ())])
        self.leads([*FIRST, base()], [*THERE, other], NAMES, [num_base()], {"base": "base"})

    def test_the_steps_that_use_it(self):
        by = say("by", NAT_A, [], after(add(A, ZERO)), after(A), chain(saying("base", (0,), a=A)))
        other = say("base", {}, [], NULL, NULL, chain())
        self.leads([*FIRST, base(), by], [*THERE, other], NAMES, [
            num_base(name="basex"),
            say("by", {"a": "num"}, [], succ(plus(A, NULL)), succ(A), chain(saying("basex", (0,), a=A))),
        ], {"base": "basex", "by": "by"})
        inner = ("split", "a", {"zero": ((), chain(saying("base", (0,), a=ZERO))), "next": (("c",), chain(
            saying("base", (0,), a=after(C))))})
        by = say("by", NAT_A, [(ZERO, ZERO)], after(add(A, ZERO)), after(A), inner)
        made = led(Book([*FIRST, base(), by]), Book([*THERE, other]), NAMES).there
        self.assertEqual(made.states()[-1], ("by", "holds"))

    def test_a_name_that_was_led_over_ahead(self):
        other = say("base", {}, [], NULL, NULL, chain())
        second = say("basex", NAT_A, [], after(add(A, ZERO)), after(A), chain(saying("base", (0,), a=A)))
        third = say("third", NAT_A, [], after(add(A, ZERO)), after(add(A, ZERO)), chain(
            saying("basex", a=A), saying("base", (0,), "back", a=A)))
        made = self.leads([*FIRST, base(), second, third], [*THERE, other], NAMES, [
            num_base(name="basex"),
            say("basexx", {"a": "num"}, [], succ(plus(A, NULL)), succ(A), chain(saying("basex", (0,), a=A))),
            say("third", {"a": "num"}, [], succ(plus(A, NULL)), succ(plus(A, NULL)), chain(
                saying("basexx", a=A), saying("basex", (0,), "back", a=A))),
        ], {"base": "basex", "basex": "basexx", "third": "third"})
        self.assertEqual([state for _, state in made.states()[3:]], ["holds"] * 3)


class Known(Leading):
    """Sayings that are there already."""

    def test_by_the_same_or_another_name(self):
        for name in ("base", "zeros"):
            for means in (BASE_THERE, OPENED, chain()):
                known = num_base(means, name)
                self.leads([*FIRST, base()], [*THERE, known], NAMES, [], {"base": name})

    def test_the_steps_use_it(self):
        by = say("by", NAT_A, [], after(add(A, ZERO)), after(A), chain(saying("base", (0,), a=A)))
        for means, state in ((BASE_THERE, "holds"), (OPENED, "leans")):
            made = self.leads([*FIRST, base(), by], [*THERE, num_base(means, "zeros")], NAMES, [
                say("by", {"a": "num"}, [], succ(plus(A, NULL)), succ(A), chain(saying("zeros", (0,), a=A))),
            ], {"base": "zeros", "by": "by"})
            self.assertEqual(made.states()[-1], ("by", state))

    def test_the_first_of_several(self):
        self.leads([*FIRST, base()], [*THERE, num_base(OPENED, "one"), num_base(name="two"), num_base(name="base")],
                   NAMES, [], {"base": "one"})

    def test_one_that_is_not_good_is_not_there(self):
        self.leads([*FIRST, base()], [num_base(name="one"), *THERE], NAMES, [num_base()], {"base": "base"})

    def test_one_that_was_led_over_ahead(self):
        self.leads([*FIRST, base(), base(name="again"), by_saying("by", "again")], THERE, NAMES, [num_base()],
                   {"base": "base", "again": "base", "by": "base"})
        other = say("base", {}, [], NULL, NULL, chain())
        self.leads([*FIRST, base(), base(name="again")], [*THERE, other], NAMES, [num_base(name="basex")],
                   {"base": "basex", "again": "basex"})

    def test_what_is_not_the_same(self):
        both = say("both", NATS, [], A, A, chain())
        for other in (
            say("other", {"b": "num", "a": "num"}, [], A, A, chain()), say("other", {"a": "num"}, [], A, A, chain()),
            say("other", {"a": "num", "b": "num"}, [(A, A)], A, A, chain()), say("other", {"x": "num", "b": "num"}, [], X, X, chain()),
            say("other", {"a": "num", "b": "num"}, [], A, B, chain()), say("other", {"a": "num", "b": "num"}, [], B, B, chain()),
            say("other", {"a": "num", "b": "num"}, [], B, A, chain()), say("other", {"a": "num", "b": "num"}, [], A, NULL, chain()),
        ):
            if other[1].holes().get("x"):
                there = [NUM, other]
                names = ({"nat": "num"}, {"zero": "null", "next": "succ"})
                entries = [KIND, both]
            else:
                there, names, entries = [*THERE, other], NAMES, [*FIRST, both]
            self.leads(entries, there, names, [say("both", {"a": "num", "b": "num"}, [], A, A, chain())], {"both": "both"})
        same = say("other", {"a": "num", "b": "num"}, [], A, A, chain())
        self.leads([*FIRST, both], [*THERE, same], NAMES, [], {"both": "other"})

    def test_kinds_count(self):
        line = ("kind", "line", [("nil", ())])
        other = say("other", {"a": "line"}, [], NULL, NULL, chain())
        entry = say("s", NAT_A, [], ZERO, ZERO, chain())
        self.leads([*FIRST, entry], [*THERE, line, other], NAMES, [say("s", {"a": "num"}, [], NULL, NULL, chain())], {"s": "s"})

    def test_it_needs_no_room_and_no_name(self):
        many = [say("s" + letter + other, {}, [], NULL, NULL, chain()) for letter in "abcde" for other in "abcdef"][:27]
        self.leads([*FIRST, base()], [*THERE, num_base(), *many], NAMES, [], {"base": "base"})
        self.leads([*FIRST, base(name="abcdefgh")], [*THERE, num_base(name="abcdefgh")], NAMES, [], {"abcdefgh": "abcdefgh"})


class Lameness(Leading):
    def test_no_room(self):
        many = [say("s" + letter + other, {}, [], NULL, NULL, chain()) for letter in "abcde" for other in "abcdef"]
        self.leads([*FIRST, base()], [*THERE, *many[:27]], NAMES, [num_base()], {"base": "base"})
        self.lame([*FIRST, base()], [*THERE, *many[:28]], NAMES, "base")
        self.lame(sums(), [*THERE, *many[:27]], NAMES, "shift")
        self.lame(sums(), [*THERE, *many[:26]], NAMES, "swap")
        self.leads(FIRST, [*THERE, *many[:28]], NAMES, [], {})

    def test_entries_that_are_not_good_need_room_too(self):
        bad = [("kind", "k" + letter + other, []) for letter in "abcde" for other in "abcdef"]
        self.lame([*FIRST, base()], [*THERE, *bad[:28]], NAMES, "base")

    def test_a_name_that_is_too_long(self):
        other = say("abcdefgh", {}, [], NULL, NULL, chain())
        self.lame([*FIRST, base(name="abcdefgh")], [*THERE, other], NAMES, "abcdefgh")
        other = say("abcdefg", {}, [], NULL, NULL, chain())
        self.leads([*FIRST, base(name="abcdefg")], [*THERE, other], NAMES, [num_base(name="abcdefgx")], {"abcdefg": "abcdefgx"})
        again = say("abcdefgx", {}, [], NULL, NULL, chain())
        self.lame([*FIRST, base(name="abcdefg")], [*THERE, other, again], NAMES, "abcdefg")

    def test_a_hole_that_is_a_head_there(self):
        # The hole is on one side, or on none.
        more = ("operator", "a", (), "num", [(of("a"), NULL)])
        self.lame([*FIRST, base()], [*THERE, more], NAMES, "base")
        self.lame([*FIRST, say("s", NAT_A, [], ZERO, ZERO, chain())], [*THERE, more], NAMES, "s")
        self.lame([*FIRST, base()], [*THERE, ("kind", "flag", [("a", ())])], NAMES, "base")
        # Heads that the likeness gives count, too.
        letters = [("kind", "num", [("null", ()), ("a", ("num",))])]
        self.lame([KIND, say("s", NAT_A, [], A, A, chain())], letters, ({"nat": "num"}, {"zero": "null", "next": "a"}), "s")
        # The names of kinds are others.
        self.leads([*FIRST, base()], [*THERE, ("kind", "a", [("yes", ())])], NAMES, [num_base()], {"base": "base"})

    def test_a_name_of_a_case_that_is_a_head_there(self):
        more = ("operator", "c", (), "num", [(of("c"), NULL)])
        self.lame([*FIRST, base()], [*THERE, more], NAMES, "base")
        inner = say("s", NAT_A, [(ZERO, ZERO)], A, A, ("so", A, A, chain(), ("peel", 0, ("split", "a", {
            "zero": ((), chain()), "next": (("c",), chain())}))))
        self.lame([*FIRST, inner], [*THERE, more], NAMES, "s")
        deeper = say("s", NAT_A, [(ZERO, ZERO)], A, A, ("through", "a", {
            "zero": ((), chain()), "next": (("d",), ("split", "d", {"zero": ((), chain()), "next": (("c",), chain())}))}))
        self.lame([*FIRST, deeper], [*THERE, more], NAMES, "s")
        by = say("same", NATS, [(A, B)], A, B, chain(given(0)))
        deepest = say("s", NAT_A, [], A, A, chain(saying("same", inner=[inner[2][4][2]], a=A, b=A)))
        self.assertEqual(Book([*FIRST, by, deepest]).states()[-1], ("s", "holds"))
        self.lame([*FIRST, by, deepest], [*THERE, more], NAMES, "s")

    def test_the_first_saying_that_cannot_be_led(self):
        more = ("operator", "b", (), "num", [(of("b"), NULL)])
        self.lame(sums(), [*THERE, more], NAMES, "shift")
        self.lame([*FIRST, shift(), base(), commutes()], [*THERE, more], NAMES, "shift")
        self.lame([*FIRST, shift(OPENED), base(), commutes(), say("s", {"b": "nat"}, [], B, B, chain())],
                  [*THERE, more], NAMES, "s")

    def test_what_is_there_already_is_not_lame(self):
        # Its case would be lame, but it is not added.
        more = ("operator", "c", (), "num", [(of("c"), NULL)])
        self.leads([*FIRST, base()], [*THERE, more, num_base(OPENED)], NAMES, [], {"base": "base"})


class Refusals(Leading):
    def refused(self, names, entries=FIRST, there=THERE):
        with self.assertRaises(BadName):
            led(Book(entries), Book(there), names)

    def test_what_is_no_pair_of_dicts(self):
        kinds, heads = NAMES
        for names in (None, True, 0, "", (), [], {}, NAMES[:1], list(NAMES), (kinds, heads, {}), (kinds, None), (None, heads),
                      (list(kinds.items()), heads), (kinds, list(heads)), (heads, kinds), ({}, {}), object()):
            self.refused(names)

    def test_names_that_are_missing_or_too_many(self):
        kinds, heads = NAMES
        self.refused(({}, heads))
        self.refused(({**kinds, "flag": "flag"}, heads))
        for head in heads:
            self.refused((kinds, {name: there for name, there in heads.items() if name != head}))
        for more in ("what", "yes", "nat"):
            self.refused((kinds, {**heads, more: "yes"}), there=[*THERE, FLAGS])

    def test_names_that_are_not_there(self):
        kinds, heads = NAMES
        for value in NO_NAMES + ["what", "nat"]:
            self.refused(({"nat": value}, heads))
            for head in heads:
                self.refused((kinds, {**heads, head: value}))

    def test_what_is_not_like_it(self):
        kinds, heads = NAMES
        for changed in ({"zero": "succ", "next": "null"}, {"zero": "plus", "add": "null"}, {"next": "plus", "add": "succ"},
                        {"zero": "succ"}, {"add": "succ"}, {"next": "null"}):
            self.refused((kinds, {**heads, **changed}))
        other = ("operator", "times", ("num", "num"), "num", [(of("times", X, Y), Y)])
        self.refused((kinds, {**heads, "add": "times"}), there=[*THERE, other])
        lists = [*FIRST, LISTS]
        there = [*THERE, ("kind", "line", [("nil", ()), ("cons", ("num", "line"))])]
        good = ({**kinds, "list": "line"}, {**heads, "none": "nil", "put": "cons"})
        self.assertIsInstance(led(Book(lists), Book(there), good), Led)
        self.refused(({"nat": "line", "list": "num"}, good[1]), lists, there)
        self.refused(({"nat": "num", "list": "num"}, good[1]), lists, there)
        self.refused((good[0], {**good[1], "none": "null"}), lists, there)

    def test_distinct_names(self):
        two = [("operator", name, (), "nat", [(of(name), ZERO)]) for name in ("one", "two")]
        there = [NUM, ("operator", "one", (), "num", [(of("one"), NULL)]), ("operator", "two", (), "num", [(of("two"), NULL)])]
        heads = {"zero": "null", "next": "succ"}
        self.refused(({"nat": "num"}, {**heads, "one": "one", "two": "one"}), [KIND, *two], there)
        names = ({"nat": "num"}, {**heads, "one": "two", "two": "one"})
        self.assertIsInstance(led(Book([KIND, *two]), Book(there), names), Led)

    def test_operators_that_go_by_others(self):
        def constants(kind, term, *names):
            return [("operator", name, (), kind, [(of(name), term)]) for name in names]

        entries = [KIND, *constants("nat", ZERO, "one", "two"), *constants("nat", after(of("one")), "three")]
        there = [NUM, *constants("num", NULL, "one", "two"), *constants("num", succ(of("one")), "three")]
        heads = {"zero": "null", "next": "succ", "three": "three"}
        self.assertIsInstance(led(Book(entries), Book(there), ({"nat": "num"}, {**heads, "one": "one", "two": "two"})), Led)
        self.refused(({"nat": "num"}, {**heads, "one": "two", "two": "one"}), entries, there)

    def test_kinds_that_go_by_others(self):
        def kinds(last):
            return [("kind", "f", [("aa", ())]), ("kind", "g", [("bb", ())]), ("kind", "h", [("cc", (last,))])]

        heads = {"aa": "bb", "bb": "aa", "cc": "cc"}
        names = ({"f": "g", "g": "f", "h": "h"}, heads)
        self.assertIsInstance(led(Book(kinds("f")), Book(kinds("g")), names), Led)
        self.refused(names, kinds("f"), kinds("f"))

    def test_only_good_entries_have_parts(self):
        self.refused(NAMES, there=[PLUS, NUM])
        self.assertIsInstance(led(Book([ADD, KIND]), Book([PLUS, NUM]), ({"nat": "num"}, {"zero": "null", "next": "succ"})), Led)

    def test_nothing_is_kept_or_modified(self):
        names = ({"nat": "num"}, dict(NAMES[1]))
        book, there = Book([*FIRST, base()]), Book(THERE)
        found = led(book, there, names)
        self.assertEqual(names, NAMES)
        names[1].clear()
        names[0].clear()
        self.assertEqual((book, there), (Book([*FIRST, base()]), Book(THERE)))
        by_names = {"base": "base"}
        made = Led(there, by_names)
        by_names.clear()
        self.assertEqual(made.by_names, {"base": "base"})
        found.by_names.clear()
        found.there.entries()[2][2][2].clear()
        self.assertEqual(found.there.showing("base"), BASE_THERE)
        self.assertEqual(Lame("base").called, "base")
        self.assertEqual(likeness(book.whole(), there.whole()), NAMES)
        self.assertEqual(Saying("s", NAT_A, [], A, A), say("s", NAT_A, [], A, A)[1])


if __name__ == "__main__":
    unittest.main()

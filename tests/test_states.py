"""What a book tells of its sayings: [20] and [22]."""

import unittest

from showhouse.books import Book
from showhouse.errors import BadName
from showhouse.judge import Slip, judged
from tests.booking import (
    ADD, FIRST, FLAGS, KIND, LISTS, OPENED, base, by_saying, commutes, commutes_by_road, say, shift, sums, told,
)
from tests.judging import D, NAT_A, NATS, add, add_zero, after, given, held, row, saying
from tests.roading import OPEN, PLAIN, seek, through
from tests.samples import A, B, C, NO_NAMES, ZERO, chain


class States(unittest.TestCase):
    def states(self, *entries):
        """The states of entries behind numbers and their addition."""
        book = Book([*FIRST, *entries])
        self.assertEqual(book.states()[:2], [("nat", "good"), ("add", "good")])
        return [state for _, state in book.states()[2:]]

    def test_each_state(self):
        self.assertEqual(self.states(base()), ["holds"])
        self.assertEqual(self.states(base(chain())), ["slip"])
        self.assertEqual(self.states(base(OPENED)), ["left"])
        self.assertEqual(self.states(base(OPENED), by_saying("other", "base")), ["left", "leans"])
        self.assertEqual(self.states(say("bad", {}, [], A, A)), ["none"])
        self.assertEqual(self.states(FLAGS, ("kind", "more", [])), ["good", "none"])

    def test_a_showing_and_a_road_for_the_same_saying(self):
        road = ("road", through("a", PLAIN, ("lean", ("row", "add", 1), "on", (), ("lean", ("held", 0), "on", (0,), PLAIN))))
        self.assertEqual(self.states(base(), base(road, "other")), ["holds", "holds"])
        self.assertEqual(self.states(base(), shift(), commutes()), ["holds"] * 3)
        self.assertEqual(self.states(base(), shift(), commutes_by_road()), ["holds"] * 3)

    def test_sayings_that_go_by_sayings(self):
        by = by_saying("other", "base")
        self.assertEqual(self.states(base(), by), ["holds", "holds"])
        self.assertEqual(self.states(base(OPENED), by), ["left", "leans"])
        self.assertEqual(self.states(base(chain()), by), ["slip", "leans"])
        self.assertEqual(self.states(base(OPENED), by, by_saying("third", "other")), ["left", "leans", "leans"])
        self.assertEqual(self.states(base(), by, by_saying("third", "other")), ["holds"] * 3)
        self.assertEqual(self.states(base(OPENED), by, by_saying("third", "other", a=B)), ["left", "leans", "slip"])
        # A road that goes by sayings leans in the same way.
        road = base(("road", seek("base")), "other")
        self.assertEqual(self.states(base(), road), ["holds", "holds"])
        self.assertEqual(self.states(base(OPENED), road), ["left", "leans"])
        self.assertEqual(self.states(base(OPENED), base(("road", PLAIN), "other")), ["left", "left"])

    def test_one_that_does_not_hold_is_enough(self):
        self.assertEqual(self.states(base(), shift(OPENED), commutes()), ["holds", "left", "leans"])
        self.assertEqual(self.states(base(OPENED), shift(), commutes()), ["left", "holds", "leans"])
        self.assertEqual(self.states(base(), shift(), commutes()), ["holds", "holds", "holds"])

    def test_what_is_not_in_the_world_before(self):
        by = by_saying("other", "base")
        self.assertEqual(self.states(by, base()), ["slip", "holds"])
        self.assertEqual(self.states(by), ["slip"])
        self.assertEqual(self.states(base(chain(saying("base", a=A)))), ["slip"])
        self.assertEqual(self.states(base(("road", seek("base")))), ["left"])
        self.assertEqual(self.states(base(("road", seek("other"))), base(("road", seek("base")), "other")), ["left", "leans"])
        # One that is not good is not there, either.
        self.assertEqual(self.states(say("base", NAT_A, [], A, B), by), ["none", "slip"])

    def test_inner_showings_count(self):
        cut = say("cut", NATS, [(after(A), after(B))], A, B, ("peel", 0, chain(given(1))))
        inner = chain(saying("base", (0,), a=A))
        by = say("other", NAT_A, [], add(A, ZERO), A, chain(saying("cut", inner=[inner], a=add(A, ZERO), b=A)))
        self.assertEqual(self.states(base(), cut, by), ["holds"] * 3)
        self.assertEqual(self.states(base(OPENED), cut, by), ["left", "holds", "leans"])
        deep = say("deep", NAT_A, [(ZERO, ZERO)], add(A, ZERO), A, ("so", ZERO, ZERO, chain(), (
            "peel", 0, ("split", "a", {"zero": ((), chain(row("add", 0, b=ZERO))), "next": (("d",), (
                "so", A, A, chain(), chain()))}))))
        self.assertEqual(self.states(deep), ["slip"])
        part = chain(saying("base", a=after(D)))
        for showing in (part, ("so", ZERO, ZERO, chain(), part), ("so", ZERO, ZERO, chain(), ("peel", 1, part)),
                        ("split", "d", {"zero": ((), chain(row("add", 1, a=ZERO, b=ZERO), row("add", 0, (0,), b=ZERO))),
                                        "next": (("a",), chain(saying("base", a=after(after(A)))))})):
            deep = say("deep", NAT_A, [(ZERO, ZERO)], add(A, ZERO), A, ("split", "a", {
                "zero": ((), chain(row("add", 0, b=ZERO))), "next": (("d",), showing)}))
            self.assertEqual(self.states(base(), deep), ["holds", "holds"])
            self.assertEqual(self.states(base(OPENED), deep), ["left", "leans"])


class Telling(unittest.TestCase):
    """What `showing`, `slip` and `left` return for each state."""

    def tells(self, entries, name, showing, slip, left):
        book = Book([*FIRST, *entries])
        self.assertEqual(book.showing(name), showing)
        found = book.slip(name)
        if slip is None:
            self.assertIsNone(found)
        else:
            self.assertIsInstance(found, Slip)
            self.assertEqual((found.where, found.why), slip)
        self.assertIsInstance(book.left(name), list)
        self.assertEqual(book.left(name), left)

    def test_holds_and_leans(self):
        self.tells([base()], "base", add_zero(), None, [])
        self.tells([base(OPENED), by_saying("other", "base")], "other", chain(saying("base", a=A)), None, [])
        self.tells([base(OPENED), base(("road", seek("base")), "other")], "other", chain(saying("base", a=A)), None, [])
        book = Book(sums())
        self.assertIsNone(judged(Book(FIRST).whole(), shift()[1], book.showing("shift")))
        self.assertEqual(book.showing("shift")[:2], ("through", "a"))

    def test_slip(self):
        self.tells([base(chain())], "base", chain(), ([], "end"), [])
        bad = ("split", "a", {"next": (("c",), chain(held(0))), "zero": ((), chain(row("add", 0, b=ZERO)))})
        self.tells([base(bad)], "base", bad, ([("case", "next"), ("step", 0)], "by"), [])

    def test_left(self):
        self.tells([base(OPENED)], "base", None, None, [([], add(A, ZERO), A)])
        self.tells([base(("road", through("a", OPEN, OPEN)))], "base", None, None, [
            ([("case", "zero")], add(ZERO, ZERO), ZERO), ([("case", "next")], add(after(B), ZERO), after(B)),
        ])

    def test_bad_names(self):
        book = Book([*sums(), say("bad", {}, [], A, A), LISTS, ("kind", "more", [])])
        for method in (book.showing, book.slip, book.left, book.leant, book.borne):
            for name in ("nat", "add", "list", "more", "bad", "what", "zero", "a"):
                with self.assertRaises(BadName):
                    method(name)
            for value in NO_NAMES:
                with self.assertRaises(BadName):
                    method(value)
            method("swap")


class Leaning(unittest.TestCase):
    def test_over_several_sayings(self):
        book = Book([*sums(), by_saying("one", "swap", a=A, b=ZERO)])
        self.assertEqual(book.states()[-1], ("one", "slip"))
        last = say("last", NATS, [], add(A, B), add(B, A), chain(saying("swap", a=A, b=B)))
        book = Book([*sums(), last, LISTS])
        self.assertEqual([book.leant(name) for name in ("base", "shift", "swap", "last")], [
            [], [], ["base", "shift"], ["base", "shift", "swap"]])
        self.assertEqual([book.borne(name) for name in ("base", "shift", "swap", "last")], [
            ["swap", "last"], ["swap", "last"], ["last"], []])

    def test_the_order_is_that_of_the_book(self):
        # The steps go by shift first; and what is leant on through others may stand ahead of what is named.
        book = Book([*FIRST, shift(), base(), commutes()])
        self.assertEqual(book.leant("swap"), ["shift", "base"])
        book = Book([*FIRST, base(), by_saying("two", "base"), by_saying("three", "base"), base(
            chain(saying("three", a=A), saying("two", way="back", a=A), saying("three", a=A)), "four")])
        self.assertEqual(book.leant("four"), ["base", "two", "three"])
        self.assertEqual(book.borne("base"), ["two", "three", "four"])

    def test_each_state(self):
        bad = base(chain(saying("base", a=A), saying("later", a=A), saying("what", a=A), saying("bad", a=A)), "slips")
        book = Book([*FIRST, base(OPENED), say("bad", {}, [], A, A), bad, base(name="later"),
                     base(("road", seek("base")), "made"), base(("road", ("so", A, A, seek("base"), OPEN)), "open"),
                     by_saying("leans", "slips")])
        self.assertEqual([state for _, state in book.states()[2:]], [
            "left", "none", "slip", "holds", "leans", "left", "leans"])
        self.assertEqual(book.leant("slips"), ["base"])
        self.assertEqual(book.leant("made"), ["base"])
        self.assertEqual(book.leant("open"), [])
        self.assertEqual(book.leant("leans"), ["base", "slips"])
        self.assertEqual(book.borne("base"), ["slips", "made", "leans"])
        self.assertEqual(book.borne("later"), [])
        self.assertEqual(book.borne("slips"), ["leans"])

    def test_inner_showings_count(self):
        cut = say("cut", NATS, [(after(A), after(B))], A, B, ("peel", 0, chain(given(1))))
        inner = chain(saying("base", (0,), a=A))
        by = say("other", NAT_A, [], add(A, ZERO), A, chain(saying("cut", inner=[inner], a=add(A, ZERO), b=A)))
        book = Book([*FIRST, base(), cut, by])
        self.assertEqual(book.leant("other"), ["base", "cut"])
        self.assertEqual(book.borne("base"), ["other"])

    def test_nobody_leans_on_itself(self):
        book = Book([*FIRST, base(chain(saying("base", a=A)))])
        self.assertEqual((book.leant("base"), book.borne("base")), ([], []))

    def test_operators_of_the_same_name_are_none(self):
        # A step by a row of an operator is no step by a saying, whatever its name.
        entry = say("other", NAT_A, [], add(ZERO, A), A, chain(row("add", 0, b=A)))
        self.assertEqual(Book([*FIRST, base(), entry]).leant("other"), [])
        bad = say("other", NAT_A, [], add(ZERO, A), A, chain(row("base", 0, b=A), held(0), given(0)))
        self.assertEqual(Book([*FIRST, base(), bad]).leant("other"), [])
        self.assertEqual(told(Book([*FIRST, entry]))["other"][3:], ([], []))
        self.assertEqual((KIND, ADD, C), (FIRST[0], FIRST[1], ("hole", "c")))


if __name__ == "__main__":
    unittest.main()

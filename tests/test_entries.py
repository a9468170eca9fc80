"""Entries of books: [19]."""

import unittest

from showhouse.books import Book
from showhouse.errors import BadEntry
from showhouse.sayings import Saying
from showhouse.worlds import World
from tests.booking import ADD, FIRST, FLAGS, KIND, LISTS, OPENED, base, commutes, say, shift, sums
from tests.judging import NAT_A, NATS, add, add_zero, after
from tests.roading import OPEN, PLAIN, first
from tests.samples import A, ADD_ROWS, B, FLAG, NAT, NO_NAMES, NO_TERMS, ZERO, chain, numeral, of, swap


class Forms(unittest.TestCase):
    def refused(self, entries, at):
        with self.assertRaises(BadEntry) as caught:
            Book(entries)
        self.assertEqual(caught.exception.at, at)

    def none(self, *values):
        """None of these is an entry, wherever it stands."""
        for value in values:
            with self.subTest(value=value):
                self.refused([value], 0)
                self.refused([KIND, ADD, value, None], 2)

    def test_what_is_no_list(self):
        for value in (None, True, 0, "", "kind", (), (KIND,), {}, {"kind"}, object(), Book([])):
            self.refused(value, 0)

    def test_what_is_no_entry(self):
        self.none(None, True, 0, "", "kind", (), [], ["kind", "nat", NAT], {}, object(), swap(), World())
        self.none(("kind",), ("Kind", "nat", NAT), ("", "nat", NAT), (None, "nat", NAT), (["kind"], "nat", NAT),
                  ("saying", swap(), chain()), ("road", OPEN), ("chain", ()), ("row", "nat", NAT))

    def test_kinds(self):
        self.none(("kind", "nat"), ("kind", "nat", NAT, NAT), ("kind", NAT, "nat"))
        self.none(*[("kind", value, NAT) for value in NO_NAMES])
        self.none(*[("kind", "nat", value) for value in (None, "", tuple(NAT), {}, dict(NAT), 0, "zero", {"zero"})])
        for value in NO_NAMES:
            self.none(("kind", "nat", [(value, ())]), ("kind", "nat", [("zero", (value,))]))
        self.none(*[("kind", "nat", [value]) for value in (
            None, "zero", (), ("zero",), ["zero", ()], ("zero", []), ("zero", ["nat"]), ("zero", None), ("zero", "nat"),
            ("zero", (), ()), ("zero", {}), 0,
        )])
        self.none(("kind", "nat", NAT + [None]))

    def test_operators(self):
        self.none(("operator", "add", ("nat", "nat"), "nat"), ("operator", "add", ("nat", "nat"), "nat", ADD_ROWS, []))
        self.none(*[("operator", value, ("nat", "nat"), "nat", ADD_ROWS) for value in NO_NAMES])
        self.none(*[("operator", "add", ("nat", "nat"), value, ADD_ROWS) for value in NO_NAMES])
        self.none(*[("operator", "add", ("nat", value), "nat", ADD_ROWS) for value in NO_NAMES])
        self.none(*[("operator", "add", value, "nat", ADD_ROWS) for value in (None, "", "nat", ["nat", "nat"], [], {}, 0)])
        self.none(*[("operator", "add", ("nat",), "nat", value) for value in (None, "", tuple(ADD_ROWS), {}, (), 0, ZERO)])
        for value in NO_TERMS:
            self.none(("operator", "add", ("nat",), "nat", [(value, ZERO)]), ("operator", "add", ("nat",), "nat", [(ZERO, value)]))
        self.none(*[("operator", "add", (), "nat", [value]) for value in (
            None, (), (ZERO,), [ZERO, ZERO], (ZERO, ZERO, ZERO), "", 0, ZERO[:1], (ZERO, numeral(61)),
        )])

    def test_sayings(self):
        self.none(("say", swap()), ("say", swap(), chain(), chain()), ("say", "swap", chain()), ("say", chain(), swap()))
        self.none(*[("say", value, chain()) for value in (None, "swap", (), [swap()], World(), 0, ("swap", NATS))])
        self.none(*[("say", swap(), value) for value in (
            None, True, 0, "", "chain", (), [], ["chain", ()], {}, object(), ("chain",), ("chain", []), ("road",),
            ("road", None), ("road", ("chain", ())), ("road", PLAIN, PLAIN), ("road", "plain"), ["road", PLAIN], PLAIN, OPEN,
            ("plan", PLAIN), ("road", first()), ("chain", (None,)), ("never", -1), ("road", ("seek", (), 7)),
        )])

    def test_roads_and_showings_at_their_limits(self):
        for word in (("peel", 0), ("road",)):
            road, showing = PLAIN, chain()
            for _ in range(11):
                road, showing = ("peel", 0, road), ("peel", 0, showing)
            means, deeper = (showing, ("peel", 0, showing)) if word == ("peel", 0) else (
                ("road", road), ("road", ("peel", 0, road)))
            Book([("say", swap(), means)])
            self.none(("say", swap(), deeper))

    def test_the_name_of_an_earlier_one(self):
        self.refused([KIND, KIND], 1)
        self.refused([KIND, ADD, base(), LISTS, base()], 4)
        self.refused([KIND, ADD, say("add", {}, [], ZERO, ZERO)], 2)
        self.refused([say("nat", {}, [], ZERO, ZERO), KIND], 1)
        self.refused([KIND, ("operator", "nat", (), "nat", [(of("nat"), ZERO)])], 1)
        # Builders have other names, and so have holes.
        book = Book([KIND, say("zero", {"next": "nat"}, [], ZERO, ZERO), say("a", NAT_A, [], A, A)])
        self.assertEqual(book.states(), [("nat", "good"), ("zero", "none"), ("a", "left")])
        self.refused([KIND, say("zero", {}, [], ZERO, ZERO), say("zero", {}, [], ZERO, ZERO)], 2)

    def test_the_first_of_several(self):
        self.refused([KIND, None, KIND], 1)
        self.refused([KIND, KIND, None], 1)
        self.refused([None, None], 0)

    def test_thirty_entries_and_one_more(self):
        names = ["s" + letter + other for letter in "abc" for other in "abcdefghijk"]
        entries = [say(name, {}, [], ZERO, ZERO) for name in names[:30]]
        self.assertEqual(len(Book(entries).entries()), 30)
        self.refused(entries + [say(names[30], {}, [], ZERO, ZERO)], 30)
        self.refused(entries + [None], 30)
        self.refused(entries[:29] + [None, None], 29)
        self.refused(entries + [say(name, {}, [], ZERO, ZERO) for name in names[30:]], 30)


class Goodness(unittest.TestCase):
    """What the world does not accept is kept in the book all the same."""

    def states(self, entries, expected):
        book = Book(entries)
        self.assertEqual([state for _, state in book.states()], expected)
        self.assertEqual([name for name, _ in book.states()], [
            entry[1].name() if entry[0] == "say" else entry[1] for entry in entries])
        self.assertEqual(book.entries(), entries)
        return book

    def test_an_empty_book(self):
        book = self.states([], [])
        self.assertEqual(book.whole(), World())

    def test_kinds(self):
        self.states([("kind", "nat", [])], ["none"])
        self.states([("kind", "nat", [("next", ("nat",))])], ["none"])
        self.states([("kind", "nat", [("zero", ("flag",))])], ["none"])
        self.states([("kind", "nat", [("zero", ()), ("zero", ())])], ["none"])
        self.states([("kind", "nat", [("zero", ()), ("next", ("nat",) * 4)])], ["none"])
        self.states([("kind", "nat", [("z" + letter, ()) for letter in "abcde"])], ["none"])
        self.states([KIND, ("kind", "more", NAT)], ["good", "none"])
        self.states([LISTS, KIND], ["none", "good"])
        kinds = [("kind", "k" + letter, [("b" + letter, ())]) for letter in "abcdefg"]
        self.states(kinds, ["good"] * 6 + ["none"])
        self.states([kinds[0], ("kind", "k", []), *kinds[1:6]], ["good", "none"] + ["good"] * 5)

    def test_operators(self):
        self.states([ADD, KIND], ["none", "good"])
        self.states([KIND, ("operator", "add", ("nat", "nat"), "nat", [])], ["good", "none"])
        self.states([KIND, ("operator", "add", ("nat", "nat"), "nat", ADD_ROWS[:1])], ["good", "none"])
        self.states([KIND, ("operator", "add", ("nat",) * 4, "nat", ADD_ROWS)], ["good", "none"])
        self.states([KIND, ("operator", "zero", (), "nat", [(ZERO, ZERO)])], ["good", "none"])
        self.states([KIND, ("operator", "a", (), "nat", [(of("a"), ZERO)]), ADD], ["good", "good", "none"])
        self.states([KIND, ADD, ("operator", "a", (), "nat", [(of("a"), ZERO)])], ["good", "good", "none"])

    def test_sayings(self):
        self.states([base(), KIND, ADD], ["none", "good", "good"])
        self.states([KIND, base(), ADD], ["good", "none", "good"])
        self.states([KIND, ADD, say("bad", NAT_A, [], A, B)], ["good", "good", "none"])
        self.states([KIND, ADD, say("bad", {"zero": "nat"}, [], ZERO, ZERO)], ["good", "good", "none"])
        self.states([KIND, FLAGS, say("bad", NAT_A, [(A, of("yes"))], A, A)], ["good", "good", "none"])

    def test_a_saying_is_good_whatever_its_means(self):
        for means in (chain(), ("never", 0), OPENED, ("split", "what", {}), ("road", PLAIN), ("road", ("never", 5))):
            book = Book([KIND, ADD, base(means)])
            self.assertNotEqual(book.states()[2][1], "none")
            self.assertEqual(list(book.whole().sayings()), ["base"])
            self.assertEqual(Book([KIND, base(means)]).states()[1][1], "none")

    def test_a_good_saying_that_is_not_shown_belongs_to_the_world(self):
        # Its hole takes the name from the operator behind it.
        late = ("operator", "a", (), "nat", [(of("a"), ZERO)])
        self.states([KIND, say("same", NAT_A, [], A, A), late], ["good", "left", "none"])
        self.states([KIND, say("same", NAT_A, [], A, A, ("never", 0)), late], ["good", "slip", "none"])
        self.states([KIND, say("same", NAT_A, [], A, A, chain()), late], ["good", "holds", "none"])
        self.states([KIND, say("bad", NAT_A, [], A, B), late], ["good", "none", "good"])

    def test_the_whole_is_the_world_of_all_good_entries(self):
        entries = sums() + [("kind", "more", NAT), LISTS]
        world = World().with_kind("nat", NAT).with_operator("add", ("nat", "nat"), "nat", ADD_ROWS)
        for entry in (base(), shift(), commutes()):
            world = world.with_saying(entry[1])
        world = world.with_kind("list", LISTS[2])
        book = Book(entries)
        self.assertEqual(book.whole(), world)
        self.assertEqual(book.whole().parts(), world.parts())
        self.assertIsInstance(book.whole(), World)


class Copies(unittest.TestCase):
    """Arguments are neither modified nor kept, and what is told is new."""

    def entries(self):
        return [
            ("kind", "nat", list(NAT)), ("operator", "add", ("nat", "nat"), "nat", list(ADD_ROWS)), base(), shift(),
            commutes(), base(chain(), "slips"), base(("split", "a", {"zero": ((), chain())}), "cases"),
        ]

    def change_all(self, entries):
        entries[0][2].clear()
        entries[1][4].clear()
        entries[2][2][2]["next"][1][1][0][3].clear()
        entries[2][2][2].clear()
        entries[6][2][2].clear()
        entries.reverse()

    def test_entries_that_are_changed_behind(self):
        entries = self.entries()
        book = Book(entries)
        self.assertEqual(entries, self.entries())
        states = book.states()
        self.change_all(entries)
        self.assertEqual(book.entries(), self.entries())
        self.assertEqual(book.states(), states)
        self.assertEqual(book.showing("base"), add_zero())
        self.assertEqual(book, Book(self.entries()))

    def test_entries_that_are_told(self):
        book = Book(self.entries())
        states = book.states()
        self.change_all(book.entries())
        self.assertEqual(book.entries(), self.entries())
        self.assertEqual(book.states(), states)
        book.states().clear()
        self.assertEqual(book.states(), states)
        self.assertEqual(book.showing("base"), add_zero())

    def test_what_else_is_told(self):
        book = Book(self.entries())
        self.assertIsNot(book.entries()[2][1], book.entries()[2][1])
        self.assertIsNot(book.whole(), book.whole())
        book.showing("base")[2].clear()
        book.showing("shift")[2].clear()
        self.assertEqual(book.showing("base"), add_zero())
        self.assertEqual(list(book.showing("shift")[2]), ["zero", "next"])
        book.slip("slips").where.append(("so", 0))
        self.assertEqual((book.slip("slips").where, book.slip("slips").why), ([], "end"))
        book.leant("swap").clear()
        book.borne("base").clear()
        self.assertEqual((book.leant("swap"), book.borne("base")), (["base", "shift"], ["swap"]))
        left = Book([*FIRST, base(("road", ("so", A, A, PLAIN, OPEN)))])
        left.left("base")[0][0].clear()
        left.left("base").clear()
        self.assertEqual(left.left("base"), [([("so", 1)], add(A, ZERO), A)])
        self.assertEqual(after(ZERO), numeral(2))
        self.assertEqual(FLAG, FLAGS[2])

    def test_the_dicts_of_a_showing_are_in_the_order_of_the_entry(self):
        turned = add_zero()
        turned = turned[:2] + ({builder: turned[2][builder] for builder in ("next", "zero")},)
        step = turned[2]["next"][1][1][0]
        bindings = {hole: step[3][hole] for hole in reversed(list(step[3]))}
        cases = {"next": (("c",), chain((*step[:3], bindings, ()), turned[2]["next"][1][1][1])), "zero": turned[2]["zero"]}
        book = Book([*FIRST, base(("through", "a", cases))])
        self.assertEqual(book.states()[2], ("base", "holds"))
        found = book.showing("base")
        self.assertEqual(list(found[2]), ["next", "zero"])
        self.assertEqual(list(found[2]["next"][1][1][0][3]), list(bindings))
        kept = book.entries()[2][2]
        self.assertEqual(list(kept[2]), ["next", "zero"])
        self.assertEqual(list(kept[2]["next"][1][1][0][3]), list(bindings))


class Equality(unittest.TestCase):
    def test_books_are_equal_if_their_entries_are(self):
        self.assertEqual(Book(sums()), Book(sums()))
        self.assertEqual(Book([]), Book([]))
        self.assertNotEqual(Book(sums()), Book(sums()[:-1]))
        self.assertNotEqual(Book(sums()), Book([KIND, ADD, shift(), base(), commutes()]))
        self.assertNotEqual(Book([KIND]), Book([("kind", "nat", NAT[::-1])]))
        self.assertNotEqual(Book([base()]), Book([base(name="other")]))
        self.assertNotEqual(Book([base()]), Book([base(chain())]))
        self.assertFalse(Book([]) == [])
        self.assertFalse(Book([KIND]) == [KIND])

    def test_the_order_of_dicts_does_not_count_but_that_of_holes_does(self):
        showing = add_zero()
        turned = showing[:2] + ({builder: showing[2][builder] for builder in ("next", "zero")},)
        self.assertEqual(Book([base(showing)]), Book([base(turned)]))
        one = say("s", {"a": "nat", "b": "nat"}, [], A, B)
        other = say("s", {"b": "nat", "a": "nat"}, [], A, B)
        self.assertNotEqual(Book([one]), Book([other]))
        self.assertNotEqual(Book([("say", Saying("s", NATS, [], A, B), OPENED)]),
                            Book([("say", Saying("s", NATS, [], A, B), ("road", PLAIN))]))


if __name__ == "__main__":
    unittest.main()

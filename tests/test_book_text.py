"""The text of books: [25]."""

import unittest

from showhouse.books import Book
from showhouse.errors import BadText
from showhouse.export import book_text, read_book
from tests.booking import ADD, FIRST, FLAGS, KIND, LISTS, OPENED, base, by_saying, commutes, say, shift, sums, told
from tests.judging import NATS, add, add_zero, after, given
from tests.roading import PLAIN
from tests.samples import A, B, ZERO, chain, of

ADD_TEXT = """\
kind nat = zero | next nat
make add nat nat = nat
  add zero b = b
  add (next a) b = next (add a b)
"""
BASE_TEXT = """\
say base a:nat : add a zero = a
  through a
    case zero
      chain
        on row add 0 at - with b = zero
    case next c
      chain
        on row add 1 at - with a = c, b = zero
        on held 0 at 0
"""
OTHER_TEXT = """\
say other a:nat : add a zero = a
  chain
    on saying base at - with a = a
"""
CUT_TEXT = """\
say cut a:nat b:nat : next a = next b -> a = b
  peel 0
    chain
      on given 1 at -
"""


class Writing(unittest.TestCase):
    def writes(self, entries, text):
        self.assertEqual(book_text(Book(entries)), text)

    def test_an_empty_book(self):
        self.writes([], "")

    def test_kinds_operators_and_sayings(self):
        self.writes([*FIRST, base()], ADD_TEXT + BASE_TEXT)
        cut = say("cut", NATS, [(after(A), after(B))], A, B, ("peel", 0, chain(given(1))))
        self.writes([KIND, cut, LISTS], "kind nat = zero | next nat\n" + CUT_TEXT + "kind list = none | put nat list\n")

    def test_open(self):
        opened = "say base a:nat : add a zero = a\n  open\n"
        for means in (OPENED, ("road", PLAIN), chain(), ("never", 0)):
            self.writes([*FIRST, base(means)], ADD_TEXT + opened)
        self.writes([*FIRST, base(OPENED), by_saying("other", "base")], ADD_TEXT + opened + OTHER_TEXT)

    def test_what_a_road_has_shown(self):
        book = Book([*FIRST, shift()])
        text = book_text(book)
        self.assertTrue(text.startswith(ADD_TEXT + "say shift a:nat b:nat : add a (next b) = next (add a b)\n  through a\n"))
        self.assertEqual(read_book(text), Book([*FIRST, shift(book.showing("shift"))]))

    def test_good_entries_only(self):
        bad = [("kind", "more", []), ("operator", "what", (), "nat", []), say("bad", {}, [], A, A, chain())]
        self.writes([bad[0], KIND, bad[1], ADD, bad[2], base()], ADD_TEXT + BASE_TEXT)

    def test_an_operator_that_takes_nothing(self):
        one = ("operator", "one", (), "nat", [(of("one"), after(ZERO))])
        self.writes([KIND, one], "kind nat = zero | next nat\nmake one = nat\n  one = next zero\n")

    def test_the_cases_are_in_the_order_of_the_entry(self):
        showing = add_zero()
        turned = showing[:2] + ({builder: showing[2][builder] for builder in ("next", "zero")},)
        rows = BASE_TEXT.splitlines(keepends=True)
        self.writes([*FIRST, base(turned)], ADD_TEXT + "".join(rows[:2] + rows[5:] + rows[2:5]))


class Reading(unittest.TestCase):
    def reads(self, text, entries):
        book = read_book(text)
        self.assertIsInstance(book, Book)
        self.assertEqual(book, Book(entries))
        self.assertEqual(told(book), told(Book(entries)))
        return book

    def test_what_is_written(self):
        self.reads("", [])
        self.reads(ADD_TEXT, FIRST)
        self.reads(ADD_TEXT + BASE_TEXT, [*FIRST, base()])
        self.reads(ADD_TEXT + BASE_TEXT + OTHER_TEXT, [*FIRST, base(), by_saying("other", "base")])
        opened = "say base a:nat : add a zero = a\n  open\n"
        self.reads(ADD_TEXT + opened, [*FIRST, base(OPENED)])
        self.reads("kind nat = zero | next nat\n" + CUT_TEXT + "kind list = none | put nat list\n", [
            KIND, say("cut", NATS, [(after(A), after(B))], A, B, ("peel", 0, chain(given(1)))), LISTS])

    def test_showings_need_not_be_accepted(self):
        text = "kind nat = zero | next nat\nsay one a:nat b:nat : a = b\n  chain\n    on saying what at 5 with q = q\n"
        book = read_book(text)
        self.assertEqual(book.states(), [("nat", "good"), ("one", "slip")])
        self.assertEqual(book.entries()[1][2], ("chain", ((("saying", "what"), "on", (5,), {"q": ("hole", "q")}, ()),)))
        self.assertEqual(book_text(book), "kind nat = zero | next nat\nsay one a:nat b:nat : a = b\n  open\n")

    def test_written_and_read(self):
        cut = say("cut", NATS, [(after(A), after(B))], A, B, ("peel", 0, chain(given(1))))
        for entries in (sums(), [*FIRST, cut, base(OPENED), by_saying("other", "base"), FLAGS, LISTS], [KIND, base(), ADD]):
            book = Book(entries)
            again = read_book(book_text(book))
            self.assertEqual(again.whole(), book.whole())
            self.assertEqual(again.states(), [pair for pair in book.states() if pair[1] != "none"])
            self.assertEqual(book_text(again), book_text(book))
            for name, state in again.states():
                if state in ("holds", "leans"):
                    self.assertEqual(again.showing(name), book.showing(name))

    def test_a_saying_with_the_deepest_showing(self):
        showing = chain()
        for _ in range(11):
            showing = ("so", A, A, chain(), showing)
        entries = [KIND, say("deep", {"a": "nat"}, [], A, A, showing)]
        text = book_text(Book(entries))
        self.reads(text, entries)
        rows = text.splitlines(keepends=True)
        deepest = rows.index("  " + "  " * 11 + "chain\n")
        rows[deepest] = rows[deepest].replace("chain", "so a = a")
        rows[deepest + 1:deepest + 1] = ["  " * 13 + "chain\n"] * 2
        with self.assertRaises(BadText) as caught:
            read_book("".join(rows))
        self.assertEqual(caught.exception.row, deepest + 1)


class Refusals(unittest.TestCase):
    def refused(self, text, row):
        with self.assertRaises(BadText) as caught:
            read_book(text)
        self.assertEqual(caught.exception.row, row, text)

    def test_what_is_no_string(self):
        for value in (None, True, 0, b"", [], (), {}, ["kind nat = zero"], Book([]), object()):
            self.refused(value, 0)

    def test_each_line_in_turn(self):
        rows = (ADD_TEXT + BASE_TEXT + OTHER_TEXT).splitlines()
        for at, line in enumerate(rows):
            for bad in (" " + line, line + " ", line.replace(" ", "  ", 1) if line[0] != " " else "\t" + line, line.upper(), "what"):
                self.refused("".join(row + "\n" for row in rows[:at] + [bad] + rows[at + 1:]), self.expected(rows, at, bad))

    def expected(self, rows, at, bad):
        """The row that is refused: a row of an operator that is no longer indented ends the operator too early."""
        if at in (2, 3) and not bad.startswith("  "):
            return 1
        return at

    def test_the_form_of_sayings_and_open(self):
        start = "kind nat = zero | next nat\nsay one a:nat : a = a\n"
        for line in ("open", " open", "   open", "    open", "  open ", "  Open", "  opened", "  open a", "", "  ", "  chains"):
            self.refused(start + line + "\n", 2)
        self.refused(start + "  open\n  open\n", 3)
        self.refused(start + "  open\n    chain\n", 3)
        self.refused(start + "  chain\n  chain\n", 3)
        self.refused(start + "  open\n\n", 3)
        self.refused(start + "kind flag = yes | no\n  open\n", 2)
        self.refused("kind nat = zero | next nat\n  open\n", 1)
        self.refused("\n", 0)

    def test_what_the_world_rejects(self):
        self.refused("kind nat = next nat\n", 0)
        self.refused("kind nat = zero\nkind flag = zero\n", 1)
        self.refused("kind nat = zero\nmake add nat = nat\n", 1)
        self.refused("kind nat = zero\nmake add nat = nat\n  add b = c\n", 1)
        self.refused("kind nat = zero\nmake add nat = flag\n  add b = b\n", 1)
        self.refused("kind nat = zero\nmake add nat = nat\n  add b = = b\n", 2)
        self.refused("kind nat = zero\nsay one a:flag : a = a\n  open\n", 1)
        self.refused("kind nat = zero\nsay one : a = a\n  open\n", 1)
        self.refused("kind nat = zero\nsay one zero:nat : zero = zero\n  open\n", 1)
        # A head that has the name of a hole of an earlier saying.
        self.refused("kind nat = zero\nsay one a:nat : a = a\n  open\nmake a = nat\n  a = zero\n", 3)
        # The world before the line counts, and not the one behind it.
        self.refused("say one : zero = zero\n  open\nkind nat = zero\n", 0)
        self.refused("kind nat = zero\nsay one : one = one\n  open\nmake one = nat\n  one = zero\n", 1)
        kinds = "".join(f"kind k{letter} = b{letter}\n" for letter in "abcdef")
        self.assertEqual(len(read_book(kinds).entries()), 6)
        self.refused(kinds + "kind kg = bg\n", 6)

    def test_an_entry_that_is_told_twice(self):
        self.refused(ADD_TEXT + BASE_TEXT + BASE_TEXT, 13)
        self.refused(ADD_TEXT + "kind nat = one\n", 4)
        self.refused(ADD_TEXT + "kind add = one\n", 4)
        self.refused(ADD_TEXT + "make nat = nat\n  nat = zero\n", 4)
        self.refused(ADD_TEXT + "say add : zero = zero\n  open\n", 4)
        self.refused("kind nat = zero\nsay one : zero = zero\n  open\nmake one = nat\n  one = zero\n", 3)
        self.refused("kind nat = zero\nsay one : zero = zero\n  open\nkind one = two\n", 3)
        # Its first line is the one that counts, whatever follows.
        self.refused(ADD_TEXT + "make nat = nat\n  what\n", 4)
        self.refused(ADD_TEXT + "say add : zero = zero\n  what\n", 4)
        self.refused(ADD_TEXT + "say add : zero = zero\n", 4)
        # Builders have other names.
        self.assertEqual(len(read_book(ADD_TEXT + "say zero : zero = zero\n  open\nkind next = one\n").entries()), 4)

    def test_the_thirty_first_entry(self):
        rows = ["kind nat = zero"]
        for at in range(29):
            rows.extend([f"say s{'abcdef'[at // 5]}{'abcde'[at % 5]} : zero = zero", "  open"])
        text = "".join(row + "\n" for row in rows)
        self.assertEqual(len(read_book(text).entries()), 30)
        for more in ("say last : zero = zero\n  open\n", "kind flag = yes\n", "make one = nat\n  what\n", "what\n", "kind flag = yes"):
            self.refused(text + more, 59)

    def test_lines_that_are_missing(self):
        rows = (ADD_TEXT + BASE_TEXT).splitlines()
        start = "".join(row + "\n" for row in rows[:4])
        self.refused(start + "say base a:nat : add a zero = a\n", 5)
        self.refused(start + "say base a:nat : add a zero = a\n  through a\n    case zero\n", 7)
        self.refused(start + "say base a:nat : add a zero = a\n  so a = a\n    chain\n", 7)
        self.refused("kind nat = zero\nmake one = nat\n", 1)
        self.refused("kind nat = zero\nsay one : zero = zero\nkind flag = yes\n", 2)

    def test_characters_behind_the_last_line_feed(self):
        self.refused("kind nat = zero", 0)
        self.refused("kind nat = zero\n ", 1)
        self.refused(ADD_TEXT + BASE_TEXT[:-1], 12)
        self.refused(ADD_TEXT + "say base a:nat : add a zero = a\n  open", 5)
        self.refused(ADD_TEXT + "say base a:nat : add a zero = a\n  open\nx", 6)
        # They are checked last.
        self.refused("kind nat = next nat\nx", 0)
        self.refused(ADD_TEXT + ADD_TEXT + "x", 4)

    def test_holes_and_heads(self):
        text = "kind nat = zero\nsay one a:nat : a = a\n  chain\n    on saying what at - with b = c\n"
        self.assertEqual(read_book(text).entries()[1][2][1][0][3], {"b": ("hole", "c")})
        text = "kind nat = zero\nsay one a:nat : a = a\n  chain\n    on saying what at - with b = zero\n"
        self.assertEqual(read_book(text).entries()[1][2][1][0][3], {"b": ZERO})
        # The operator that follows is no head yet.
        text = "kind nat = zero\nsay one : zero = zero\n  chain\n    on saying what at - with b = late\n"
        text = text + "make late = nat\n  late = zero\n"
        self.assertEqual(read_book(text).entries()[1][2][1][0][3], {"b": ("hole", "late")})
        self.assertEqual(add(A, B), of("add", A, B))

    def test_commutes(self):
        text = book_text(Book([*FIRST, base(), shift(), commutes()]))
        for at, line in enumerate(text.splitlines()):
            rows = text.splitlines()
            rows[at] = line + "x)"
            self.refused("".join(row + "\n" for row in rows), at)


if __name__ == "__main__":
    unittest.main()

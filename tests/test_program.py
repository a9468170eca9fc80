"""What is promised over the whole program."""

import unittest

from showhouse.books import Book
from showhouse.errors import TooMuch
from showhouse.export import book_text, read_book
from showhouse.judge import judged
from showhouse.leading import led, likeness
from showhouse.roads import Shown, run_road
from showhouse.wording import read_saying, read_term, saying_text, term_text
from showhouse.worths import tried
from showhouse.writing import read_showing, showing_text
from tests.booking import told
from tests.roading import PLAIN, first, lean, seek, split, through

TEXT = """\
kind nat = zero | next nat
kind flag = yes | no
make add nat nat = nat
  add zero v = v
  add (next u) v = next (add u v)
make mul nat nat = nat
  mul zero v = zero
  mul (next u) v = add v (mul u v)
make flip flag = flag
  flip yes = no
  flip no = yes
make even nat = flag
  even zero = yes
  even (next u) = flip (even u)
kind list = none | put nat list
make join list list = list
  join none v = v
  join (put u w) v = put u (join w v)
make turn list = list
  turn none = none
  turn (put u w) = join (turn w) (put u none)
make sum list = nat
  sum none = zero
  sum (put u w) = add u (sum w)
"""

STEP = lean(("row", "add", 1), lean(("held", 0), PLAIN, (0,)))


def by_held(operator, number, place, road=PLAIN):
    """One step by a row, and one by what is held behind it."""
    return lean(("row", operator, number), lean(("held", 0), road, place))


# Sayings with the roads that show them, in order.
ROADS = [
    ("say base a:nat : add a zero = a", through("a", PLAIN, STEP)),
    ("say shift a:nat b:nat : add a (next b) = next (add a b)", through("a", PLAIN, STEP)),
    ("say swap a:nat b:nat : add a b = add b a",
     through("a", seek("base"), by_held("add", 1, (0,), seek("shift")))),
    ("say assoc a:nat b:nat c:nat : add (add a b) c = add a (add b c)",
     through("a", PLAIN, lean(("row", "add", 1), by_held("add", 1, (0,)), (0,)))),
    ("say twice f:flag : flip (flip f) = f", split("f", PLAIN, PLAIN)),
    ("say evens a:nat b:nat : even a = even b -> even (next a) = even (next b)",
     lean(("row", "even", 1), lean(("given", 0), PLAIN, (0,)))),
    ("say odd a:nat : even (next (next a)) = even a", seek("twice")),
    ("say cut a:nat b:nat : next a = next b -> a = b", ("peel", 0, lean(("given", 1), PLAIN))),
    ("say apart a:nat b:nat : zero = next a -> a = b", first(PLAIN, ("never", 0))),
    ("say ends l:list : join l none = l", through("l", PLAIN, by_held("join", 1, (1,)))),
    ("say joins k:list l:list m:list : join (join k l) m = join k (join l m)",
     through("k", PLAIN, lean(("row", "join", 1), by_held("join", 1, (1,)), (0,)))),
    ("say sums l:list m:list : sum (join l m) = add (sum l) (sum m)",
     through("l", PLAIN, lean(("row", "join", 1), by_held("sum", 1, (1,), seek("assoc")), (0,)))),
    ("say turned l:list : sum (turn l) = sum l", through("l", PLAIN, lean(("row", "turn", 1), lean(
        ("saying", "sums"), lean(("held", 0), lean(("saying", "swap"), seek("base")), (0,))), (0,)))),
    ("say wrong a:nat : add a a = a", through("a", PLAIN, PLAIN)),
    ("say open a:nat b:nat : mul a b = mul b a", seek("swap")),
]


def entries():
    """The entries of a book with these roads."""
    book = read_book(TEXT)
    world = book.whole()
    return book.entries() + [("say", read_saying(world, text), ("road", road)) for text, road in ROADS]


def other_entries(book, names):
    """The entries of a book for whose heads, kinds and holes of rows there are other names."""
    text = book_text(book)
    words = []
    for line in text.split("\n"):
        parts = line.replace("(", "( ").replace(")", " )").split(" ")
        words.append(" ".join([names.get(part, part) for part in parts]).replace("( ", "(").replace(" )", ")"))
    return read_book("\n".join(words)).entries()


class Program(unittest.TestCase):
    @classmethod
    def setUpClass(cls):
        cls.book = Book(entries())
        cls.states = dict(cls.book.states())

    def test_what_the_roads_show(self):
        self.assertEqual(
            {name for name, state in self.states.items() if state == "left"}, {"wrong", "open"}, self.book.left("turned"))
        self.assertEqual({state for state in self.states.values()}, {"good", "holds", "left"})

    def test_what_holds_is_spoiled_by_no_small_worths(self):
        for size in (1, 2, 3, 4):
            for name, state in self.book.states():
                if state == "holds":
                    try:
                        self.assertIsNone(tried(self.book.whole(), self.book.whole().sayings()[name], size=size))
                    except TooMuch:
                        self.assertEqual(size, 4)
        self.assertIsNotNone(tried(self.book.whole(), self.book.whole().sayings()["wrong"]))

    def test_what_a_road_shows_is_accepted_and_again_when_read(self):
        found = self.book.entries()
        world = read_book(TEXT).whole()
        for _, saying, means in found[len(read_book(TEXT).entries()):]:
            answer = run_road(world, saying, means[1])
            if isinstance(answer, Shown):
                self.assertIsNone(judged(world, saying, answer.made))
                again = read_showing(world, showing_text(answer.made))
                self.assertEqual(again, answer.made)
                self.assertIsNone(judged(world, saying, again))
                self.assertEqual(read_saying(world, saying_text(saying)), saying)
            else:
                for where, left, right in answer.goals:
                    self.assertIsInstance(where, list)
                    for side in (left, right):
                        self.assertEqual(read_term(world, term_text(side)), side)
            world = world.with_saying(saying)

    def test_a_book_that_is_read_from_its_text_tells_the_same(self):
        again = read_book(book_text(self.book))
        self.assertEqual(again.whole(), self.book.whole())
        self.assertEqual(again.states(), self.book.states())
        for name, state in self.states.items():
            if state != "good":
                self.assertEqual(again.showing(name), self.book.showing(name))
                self.assertEqual(again.leant(name), self.book.leant(name))
                self.assertEqual(again.borne(name), self.book.borne(name))
        self.assertEqual(book_text(again), book_text(self.book))
        self.assertEqual(told(read_book(book_text(again))), told(again))

    def test_a_book_that_is_led_over_and_back_tells_the_same(self):
        names = {"nat": "num", "zero": "null", "next": "succ", "add": "plus", "list": "line", "put": "cons", "u": "x", "w": "z"}
        parts = read_book(TEXT)
        there = Book([("kind", "extra", [("more", ())]), *other_entries(parts, names)])
        ahead = likeness(self.book.whole(), there.whole())
        self.assertEqual(ahead[1]["put"], "cons")
        over = led(self.book, there, ahead)
        holding = [name for name, state in self.book.states() if state == "holds"]
        self.assertEqual(list(over.by_names), holding)
        self.assertEqual([name for name, state in over.there.states() if state == "holds"], holding)
        whole = over.there.whole()
        for name, image in over.by_names.items():
            self.assertIsNone(judged(whole, whole.sayings()[image], over.there.showing(image)))
        back_names = tuple({image: name for name, image in part.items()} for part in ahead)
        more = Book([entry for entry in over.there.entries() if entry[1] != "extra"])
        self.assertEqual(likeness(more.whole(), parts.whole()), back_names)
        back = led(more, parts, back_names).there
        for name in holding:
            self.assertEqual(back.showing(name), self.book.showing(name))
            self.assertEqual(back.leant(name), self.book.leant(name))
            self.assertEqual(dict(back.states())[name], "holds")
        self.assertEqual(back.whole().sayings(), {name: self.book.whole().sayings()[name] for name in holding})

    def test_led_over_to_itself_nothing_is_added(self):
        names = likeness(self.book.whole(), self.book.whole())
        found = led(self.book, self.book, names)
        self.assertEqual(found.there, self.book)
        self.assertEqual(found.by_names, {name: name for name, state in self.states.items() if state == "holds"})


if __name__ == "__main__":
    unittest.main()

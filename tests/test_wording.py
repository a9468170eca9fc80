"""The text of terms and of sayings: [12]."""

import unittest

from showhouse.errors import BadTerm, BadText
from showhouse.sayings import Saying
from showhouse.wording import read_saying, read_term, saying_text, term_text
from showhouse.worlds import World
from tests.judging import full_world
from tests.samples import A, B, C, NO_TERMS, ZERO, hole, lists, numeral, of, swap

NO_STRINGS = [None, True, False, 0, 1, b"a", ["a"], ("a",), {"a": "a"}, {"a"}, object(), A]
NONE = of("none")


def after(term):
    return of("next", term)


def all_ways_to_double_a_blank(line):
    return [line[:at] + " " + line[at:] for at in range(len(line)) if line[at] == " "]


def padded(line):
    return [" " + line, line + " ", "  " + line, line + "  ", "\n" + line, line + "\n"]


class Terms(unittest.TestCase):
    TEXTS = [
        (A, "a"),
        (ZERO, "zero"),
        (after(A), "next a"),
        (after(ZERO), "next zero"),
        (after(after(A)), "next (next a)"),
        (of("add", A, after(ZERO)), "add a (next zero)"),
        (of("add", after(A), B), "add (next a) b"),
        (of("add", of("add", A, B), of("add", B, after(after(A)))), "add (add a b) (add b (next (next a)))"),
        (of("put", ZERO, of("put", A, NONE)), "put zero (put a none)"),
        (hole("abcdefgh"), "abcdefgh"),
    ]
    # These have no kind.
    ODD_TEXTS = [
        (of("next"), "next"),
        (of("next", of("next"), of("add")), "next next add"),
        (of("zero", A), "zero a"),
        (of("add", A, B, C, A), "add a b c a"),
        (of("next", of("zero", of("none", ZERO))), "next (zero (none zero))"),
        (of("put", NONE, ZERO), "put none zero"),
        (hole("nat"), "nat"),
    ]

    def setUp(self):
        self.world = lists()

    def test_the_text(self):
        for term, text in self.TEXTS + self.ODD_TEXTS:
            self.assertEqual(term_text(term), text)

    def test_what_is_written_can_be_read(self):
        for term, text in self.TEXTS + self.ODD_TEXTS:
            self.assertEqual(read_term(self.world, text), term)

    def test_the_text_needs_no_world(self):
        self.assertEqual(term_text(of("nowhere", of("a"), of("q", hole("zero")))), "nowhere a (q zero)")

    def test_heads_are_heads_and_all_others_holes(self):
        self.assertEqual(read_term(World(), "zero"), hole("zero"))
        self.assertEqual(read_term(self.world, "next nat"), after(hole("nat")))
        self.assertEqual(read_term(self.world, "next c"), after(C))
        self.assertEqual(read_term(self.world.with_kind("c", [("c", ())]), "next c"), after(of("c")))
        self.assertEqual(read_term(self.world.with_saying(swap("c")), "c"), C)

    def test_words_of_the_form(self):
        words = "kind make say chain on back at with of hole row".split()
        for word in words:
            self.assertEqual(read_term(self.world, f"next {word}"), after(hole(word)))
        world = World().with_kind("kind", [("of", ()), ("hole", ("kind",)), ("make", ("kind", "kind"))])
        term = of("make", of("hole", of("of")), hole("say"))
        self.assertEqual(term_text(term), "make (hole of) say")
        self.assertEqual(read_term(world, "make (hole of) say"), term)

    def test_what_is_no_term(self):
        for term in NO_TERMS + [numeral(61)]:
            with self.subTest(term=term), self.assertRaises(BadTerm):
                term_text(term)

    def refused(self, text):
        with self.subTest(text=text), self.assertRaises(BadText) as caught:
            read_term(self.world, text)
        self.assertEqual(caught.exception.row, 0)

    def test_what_is_no_string(self):
        for text in NO_STRINGS:
            self.refused(text)

    def test_blanks(self):
        for text in ("add a b", "add (next a) b", "add a (next (next zero))", "zero", "a"):
            for other in all_ways_to_double_a_blank(text) + padded(text):
                self.refused(other)
        for text in ("", " ", "  ", "\n", "add(next a) b", "add (next a)b", "add a(next b)", "next( next a)", "add a\nb"):
            self.refused(text)

    def test_parentheses_that_are_not_needed(self):
        for text in (
            "(a)", "(zero)", "(next a)", "((next a))", "next (a)", "next (zero)", "add (a) b", "add a (b)",
            "next ((next a))", "(next) a", "(next a) b", "add ((next a)) b", "next (next (a))", "next (next)",
        ):
            self.refused(text)

    def test_parentheses_that_do_not_close(self):
        for text in (
            "(", ")", "()", "next (", "next )", "next ()", "next (next a", "next next a)", "next (next a))", "next ((next a)",
            "(next (next a)", "next )next a(", "add (next a b", "add next a) b", ")(", "next (next a)(", "next (()) a",
            "((((((((((" * 50, "))))))))))" * 50, "next (" * 70, "next (" * 70 + "a" + ")" * 70,
        ):
            self.refused(text)

    def test_words_that_are_no_names(self):
        for text in ("A", "next A", "nextA", "a1", "a_b", "next 1", "abcdefghi", "next abcdefghi", "a.b", "a=b", "a = b", "-",
                     "next -", "a, b", "a:nat", "next [a]", "next {a}", "a'", "next a,"):
            self.refused(text)

    def test_holes_take_nothing(self):
        for text in ("a b", "a zero", "next (a b)", "nat zero", "add a (b c)", "a (next b)", "(a b) c", "(a b)", "(a b) (c a)"):
            self.refused(text)

    def test_sixty_and_sixty_one(self):
        self.assertEqual(read_term(self.world, term_text(numeral(60))), numeral(60))
        self.refused(f"next ({term_text(numeral(60))})")
        self.assertEqual(read_term(self.world, "add" + " a" * 59), of("add", *[A] * 59))
        self.refused("add" + " a" * 60)
        self.refused("add" + " a" * 5000)


class Sayings(unittest.TestCase):
    TEXTS = [
        (Saying("same", {"a": "nat", "b": "nat"}, [(after(A), after(B))], A, B),
         "say same a:nat b:nat : next a = next b -> a = b"),
        (swap(), "say swap a:nat b:nat : add a b = add b a"),
        (Saying("none", {}, [], ZERO, after(ZERO)), "say none : zero = next zero"),
        (Saying("given", {}, [(ZERO, ZERO)], ZERO, ZERO), "say given : zero = zero -> zero = zero"),
        (Saying("four", {"b": "nat", "a": "list"}, [(B, ZERO), (A, NONE), (ZERO, B), (NONE, A)], after(after(B)), B),
         "say four b:nat a:list : b = zero -> a = none -> zero = b -> none = a -> next (next b) = b"),
        (Saying("six", {name: "nat" for name in "fedcba"}, [], A, B), "say six f:nat e:nat d:nat c:nat b:nat a:nat : a = b"),
        # Whatever the kinds.
        (Saying("odd", {"a": "nowhere"}, [(hole("x"), NONE)], of("next"), of("add", B)),
         "say odd a:nowhere : x = none -> next = add b"),
        (Saying("say", {"at": "of", "hole": "kind"}, [(hole("with"), hole("say"))], hole("make"), hole("at")),
         "say say at:of hole:kind : with = say -> make = at"),
        (Saying("zero", {"zero": "nat"}, [], ZERO, A), "say zero zero:nat : zero = a"),
    ]

    def setUp(self):
        self.world = lists()

    def test_the_text(self):
        for saying, text in self.TEXTS:
            self.assertEqual(saying_text(saying), text)

    def test_what_is_written_can_be_read(self):
        for saying, text in self.TEXTS:
            self.assertEqual(read_saying(self.world, text), saying)
            self.assertEqual(saying_text(read_saying(self.world, text)), text)

    def test_heads_are_those_of_the_world(self):
        found = read_saying(World(), "say swap a:nat : zero = a")
        self.assertEqual(found, Saying("swap", {"a": "nat"}, [], hole("zero"), A))

    def test_a_saying_that_the_world_has(self):
        world = full_world()
        for saying in world.sayings().values():
            self.assertEqual(read_saying(world, saying_text(saying)), saying)

    def refused(self, text):
        with self.subTest(text=text), self.assertRaises(BadText) as caught:
            read_saying(self.world, text)
        self.assertEqual(caught.exception.row, 0)

    def test_what_is_no_string(self):
        for text in NO_STRINGS + [swap()]:
            self.refused(text)

    def test_blanks(self):
        for _, text in self.TEXTS:
            for other in all_ways_to_double_a_blank(text) + padded(text):
                self.refused(other)
        for text in (
            "sayswap : a = b", "say swap: a = b", "say swap :a = b", "say swap : a=b", "say swap : a= b", "say swap : a =b",
            "say swap a:nat: a = b", "say swap a: nat : a = b", "say swap a :nat : a = b", "say swap a : nat : a = b",
            "say swap a:natb:nat : a = b", "say swap : a = b-> a = b", "say swap : a = b ->a = b", "say swap : a = b->a = b",
            "say swap : a = b - > a = b", "say swap :  : a = b",
        ):
            self.refused(text)

    def test_missing_parts(self):
        for text in (
            "", "say", "say ", "say swap", "say swap :", "say swap : ", "say : a = b", "say  : a = b", "swap : a = b",
            "say swap a = b", "say swap : a", "say swap : a =", "say swap : = b", "say swap : a = ", "say swap :  = b",
            "say swap : a = b ->", "say swap : a = b -> ", "say swap : -> a = b", "say swap : a -> a = b",
            "say swap : a = b -> b", "say swap : a b", "say swap a: : a = b", "say swap :nat : a = b", "say swap a : a = b",
            "say swap : : a = b", "say swap : a = b = c", "say swap : a = b -> -> a = b", "say swap : a = b, a = b",
            "say swap : a = b -> a = b ->", "Say swap : a = b", "kind swap : a = b", "say swap\n: a = b",
        ):
            self.refused(text)

    def test_more_than_it_may_have(self):
        self.refused("say seven g:nat f:nat e:nat d:nat c:nat b:nat a:nat : a = b")
        self.refused("say five : " + "a = b -> " * 5 + "a = b")
        self.refused("say twice a:nat a:nat : a = a")
        self.refused("say twice a:nat b:nat a:list : a = a")
        self.refused("say swap other : a = b")

    def test_names(self):
        for text in (
            "say Swap : a = b", "say abcdefghi : a = b", "say a1 : a = b", "say a:nat : a = b", "say swap A:nat : a = b",
            "say swap a:Nat : a = b", "say swap abcdefghi:nat : a = b", "say swap a:abcdefghi : a = b",
            "say swap a:nat:nat : a = b", "say swap a::nat : a = b",
        ):
            self.refused(text)

    def test_terms(self):
        for text in ("next (a)", "(next a)", "next next)", "a b", "A", "next ( a)", "next  a", "add" + " a" * 60):
            self.refused(f"say swap : {text} = b")
            self.refused(f"say swap : a = {text}")
            self.refused(f"say swap : {text} = b -> a = b")
            self.refused(f"say swap : a = b -> b = {text} -> a = b")
        most = "add" + " a" * 59
        found = read_saying(self.world, f"say most : {most} = {most} -> {most} = {most}")
        self.assertEqual(found.right(), of("add", *[A] * 59))

    def test_what_was_returned_is_new(self):
        text = "say swap a:nat : a = a -> a = a"
        first = read_saying(self.world, text)
        first.holes()["b"] = "nat"
        first.givens().append((A, B))
        self.assertEqual(saying_text(first), text)
        self.assertEqual(read_saying(self.world, text), first)
        self.assertIsNot(read_saying(self.world, text), first)
        self.assertEqual(self.world, lists())


if __name__ == "__main__":
    unittest.main()

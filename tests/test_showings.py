"""What is constructed as a showing, and what is not: [9] and [10]."""

import unittest

from showhouse.errors import BadSaying, BadShowing
from showhouse.judge import judged
from showhouse.sayings import Saying
from showhouse.writing import showing_text
from tests.samples import (
    A, B, NO_NAMES, NO_NUMBERS, NO_TERMS, ZERO, bindings_that_are_none, chain, numbers, numeral, of, step, swap,
)

SAYING = Saying("same", {"a": "nat", "b": "nat"}, [(A, B)], A, B)
NO_WORDS = ["", "chains", "Chain", "on", "row", "lean", "open", None, True, 0, b"chain", ["chain"], ("chain",), {}, {1}]
NO_WAYS = ["", "On", "off", "backs", "at", None, True, False, 0, 1, b"on", ["on"], ("on",), {}, {"on"}]
NO_TUPLES = [None, True, 0, "", "a", b"a", [], ["a"], {}, {"a": "b"}, {"a"}, object()]
NO_SHOWINGS = [
    None, True, False, 0, "", "chain", [], {}, set(), object(), (), ("chain",), ("chain", (), ()), ["chain", ()],
    ("chain", []), ("chain", None), ("through", "a"), ("through", "a", {}, {}), ("split", "a"), ("split", "a", {}, ()),
    ("peel", 0), ("peel", 0, ("chain", ()), ()), ("peel", ("chain", ()), 0), ("never",), ("never", 0, 0),
    ("never", 0, ("chain", ())), ("so", A, A), ("so", A, A, ("chain", ())), ("so", (A, A), ("chain", ()), ("chain", ())),
    ("so", A, A, ("chain", ()), ("chain", ()), ("chain", ())), ("plain",), ("open",), (("chain", ()),), A, ZERO,
]
NO_PLACES = NO_TUPLES + [("0",), (0, None), (True,), (0, -1), (1000,), (0, (0,)), ([0],), 1, "0.1"]
NO_BYS = NO_TUPLES + [
    (), ("given",), ("given", 0, 0), ("held",), ("held", 0, 0), ("saying",), ("saying", "a", 0), ("row",), ("row", "add"),
    ("row", "add", 0, 0), ("row", 0, "add"), ("given", "a"), ("held", "a"), ("saying", 0), ("rows", "add", 0), ("Given", 0),
    ("lean", 0), ("chain", ()), (["given"], 0), (None, 0), (True, 0), ({}, 0), ["given", 0],
]


def never(number=0):
    return ("never", number)


def nested(depth, inmost=("chain", ())):
    """A showing that is nested this deep."""
    for _ in range(depth - 1):
        inmost = ("peel", 0, inmost)
    return inmost


def nested_in_each_way(inner):
    """Showings that have this one as a part, one level below."""
    return [
        chain(step(("given", 0), inner=(inner,))),
        chain(step(("given", 0)), step(("given", 0), inner=(chain(), inner))),
        ("through", "a", {"zero": ((), inner)}),
        ("through", "a", {"zero": ((), chain()), "next": (("c",), inner)}),
        ("split", "a", {"no": ((), inner)}),
        ("peel", 0, inner),
        ("so", A, B, inner, chain()),
        ("so", A, B, chain(), inner),
    ]


class Showings(unittest.TestCase):
    def good(self, showing):
        """It is one, whatever the judge says of it; and it can be written."""
        judged(numbers(), SAYING, showing)
        self.assertTrue(showing_text(showing).endswith("\n"))

    def bad(self, showing):
        for place in [showing] + nested_in_each_way(showing):
            with self.subTest(showing=place):
                with self.assertRaises(BadShowing):
                    judged(numbers(), SAYING, place)
                with self.assertRaises(BadShowing):
                    showing_text(place)

    def each_bad(self, make, values):
        for value in values:
            self.bad(make(value))

    def test_what_is_no_showing(self):
        self.each_bad(lambda value: value, NO_SHOWINGS)

    def test_words(self):
        for form in nested_in_each_way(chain()) + [chain(), never()]:
            self.good(form)
            self.each_bad(lambda word: (word,) + form[1:], NO_WORDS)

    def test_numbers_of_parts(self):
        for form in nested_in_each_way(chain()) + [chain(), never()]:
            self.bad(form[:-1])
            for more in (None, (), 0, chain(), form[-1]):
                self.bad(form + (more,))

    def test_what_is_no_tuple(self):
        for form in nested_in_each_way(chain()) + [chain(), never()]:
            self.bad(list(form))

    def test_steps(self):
        self.each_bad(lambda steps: ("chain", steps), NO_TUPLES)
        self.each_bad(chain, NO_TUPLES + [(), ("given", 0), chain()])
        good = step(("given", 0))
        self.good(chain(good))
        for number in range(5):
            self.bad(chain(good[:number] + good[number + 1:]))
        self.bad(chain(good + ((),)))
        self.bad(chain(list(good)))
        self.bad(chain(good, good, None))

    def test_by(self):
        for by in (("row", "add", 0), ("saying", "any"), ("held", 0), ("given", 0)):
            self.good(chain(step(by)))
            self.bad(chain(step(list(by))))
        self.each_bad(lambda by: chain(step(by)), NO_BYS)
        self.each_bad(lambda name: chain(step(("row", name, 0))), NO_NAMES)
        self.each_bad(lambda name: chain(step(("saying", name))), NO_NAMES)
        self.each_bad(lambda number: chain(step(("row", "add", number))), NO_NUMBERS)
        self.each_bad(lambda number: chain(step(("held", number))), NO_NUMBERS)
        self.each_bad(lambda number: chain(step(("given", number))), NO_NUMBERS)

    def test_ways(self):
        for way in ("on", "back"):
            self.good(chain(step(("given", 0), way)))
        self.each_bad(lambda way: chain(step(("given", 0), way)), NO_WAYS)

    def test_places(self):
        for place in ((), (0,), (2, 1, 0), (999,), (0,) * 100):
            self.good(chain(step(("given", 0), "on", place)))
        self.each_bad(lambda place: chain(step(("given", 0), "on", place)), NO_PLACES)
        self.each_bad(lambda number: chain(step(("given", 0), "on", (0, number))), NO_NUMBERS)

    def test_bindings(self):
        def make(bindings):
            return chain((("given", 0), "on", (), bindings, ()))

        self.good(make({}))
        self.good(make({"a": A, "zero": numeral(60), "nat": of("nowhere")}))
        self.each_bad(make, bindings_that_are_none())
        self.each_bad(lambda term: make({"a": A, "b": term}), NO_TERMS + [numeral(61)])
        for name in NO_NAMES:
            if not isinstance(name, (list, dict, set)):
                self.bad(make({"a": A, name: A}))

    def test_inner_showings(self):
        self.good(chain(step(("given", 0), inner=[chain()] * 5)))
        self.each_bad(lambda inner: chain((("given", 0), "on", (), {}, inner)), NO_TUPLES + [chain()])
        self.each_bad(lambda inner: chain(step(("given", 0), inner=(chain(), inner))), NO_SHOWINGS)

    def test_holes(self):
        for word in ("through", "split"):
            for name in ("a", "zzzzzzzz", "zero", "nat"):
                self.good((word, name, {}))
            self.each_bad(lambda name: (word, name, {}), NO_NAMES)

    def test_cases(self):
        for word in ("through", "split"):
            def make(cases):
                return (word, "a", cases)

            def case(value):
                return make({"zero": ((), chain()), "next": value})

            self.good(make({"no": (("a", "a", "zero", "nat", "e"), chain())}))
            self.each_bad(make, bindings_that_are_none())
            self.each_bad(case, NO_TUPLES + [(), ((),), (chain(),), ((), chain(), ()), ["a", chain()], chain()])
            self.each_bad(lambda names: case((names, chain())), NO_TUPLES)
            self.each_bad(lambda name: case((("c", name), chain())), NO_NAMES)
            self.each_bad(lambda part: case((("c",), part)), NO_SHOWINGS)
            for name in NO_NAMES:
                if not isinstance(name, (list, dict, set)):
                    self.bad(make({"zero": ((), chain()), name: ((), chain())}))

    def test_numbers(self):
        for number in (0, 999):
            self.good(("peel", number, chain()))
            self.good(never(number))
        self.each_bad(lambda number: ("peel", number, chain()), NO_NUMBERS)
        self.each_bad(never, NO_NUMBERS)
        self.each_bad(lambda part: ("peel", 0, part), NO_SHOWINGS)

    def test_so(self):
        self.good(("so", numeral(60), of("nowhere", A), chain(), chain()))
        self.each_bad(lambda term: ("so", term, A, chain(), chain()), NO_TERMS + [numeral(61)])
        self.each_bad(lambda term: ("so", A, term, chain(), chain()), NO_TERMS + [numeral(61)])
        self.each_bad(lambda part: ("so", A, A, part, chain()), NO_SHOWINGS)
        self.each_bad(lambda part: ("so", A, A, chain(), part), NO_SHOWINGS)

    def test_sixty_steps_and_sixty_one(self):
        there, again = step(("given", 0)), step(("given", 0), "back")
        self.good(chain(*[there, again] * 30))
        self.bad(chain(*[there, again] * 30, there))
        self.assertIsNone(judged(numbers(), SAYING, chain(*[there, again] * 29, there)))
        # Sixty in each chain, not in all of them.
        many = chain(*[there, again] * 30)
        self.good(("so", A, B, many, chain(step(("given", 0), inner=(many, many)))))

    def test_nesting(self):
        self.good(nested(12))
        self.good(nested(12, never()))
        for showing in nested_in_each_way(nested(11)):
            self.good(showing)
        for showing in [nested(13), nested(13, never())] + nested_in_each_way(nested(12)):
            with self.assertRaises(BadShowing):
                judged(numbers(), SAYING, showing)
            with self.assertRaises(BadShowing):
                showing_text(showing)

    def test_nesting_counts_every_sort_of_showing(self):
        ways = len(nested_in_each_way(chain()))
        for at in range(ways):
            inmost = chain()
            for turn in range(11):
                inmost = nested_in_each_way(inmost)[(at + turn) % ways]
            self.good(inmost)
            for showing in nested_in_each_way(inmost):
                with self.assertRaises(BadShowing):
                    judged(numbers(), SAYING, showing)

    def test_nesting_without_end(self):
        cases = {}
        showing = ("through", "a", cases)
        cases["zero"] = ((), showing)
        with self.assertRaises(BadShowing):
            judged(numbers(), SAYING, showing)

    def test_behind_a_place_where_the_judge_slips(self):
        slips = step(("held", 0))
        wrong = step(("given", 1000))
        for showing in (
            chain(slips, wrong),
            chain(step(("given", 0), "on", (9,), {}, [chain(wrong)])),
            ("through", "q", {"zero": ((), chain(wrong))}),
            ("through", "a", {"zero": ((), chain(slips)), "next": (("c",), chain(wrong))}),
            ("split", "a", {"zero": ((), chain(slips)), "next": (("zero",), chain(wrong))}),
            ("peel", 999, chain(wrong)),
            ("so", A, of("none"), chain(wrong), chain()),
            ("so", A, B, chain(slips), chain(wrong)),
        ):
            with self.subTest(showing=showing), self.assertRaises(BadShowing):
                judged(numbers(), SAYING, showing)

    def test_a_bad_saying_comes_first(self):
        for saying in (
            None, True, 0, "same", (), [], {}, object(), numbers(), Saying("bad", {"a": "list"}, [], A, A),
            Saying("bad", {}, [], A, A), Saying("bad", {"add": "nat"}, [], ZERO, ZERO),
            Saying("bad", {"a": "nat"}, [(A, of("none"))], A, A), Saying("bad", {"a": "nat"}, [], A, of("next")),
        ):
            for showing in (chain(), None, ("chain", ()) * 2, never(1000)):
                with self.subTest(saying=saying, showing=showing), self.assertRaises(BadSaying):
                    judged(numbers(), saying, showing)

    def test_the_name_of_the_saying_counts_for_nothing(self):
        world = numbers().with_saying(swap())
        for name in ("swap", "other", "add", "zero", "nat", "a"):
            saying = Saying(name, {"a": "nat"}, [], A, A)
            self.assertIsNone(judged(world, saying, chain()))


if __name__ == "__main__":
    unittest.main()

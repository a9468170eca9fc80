"""Terms and their kinds: [4]."""

import unittest

from showhouse.errors import BadTerm
from showhouse.worlds import World
from tests.samples import A, B, NO_NAMES, NO_TERMS, ZERO, hole, lists, numbers, numeral, of


class KindOf(unittest.TestCase):
    def setUp(self):
        self.world = lists()

    def test_holes(self):
        holes = {"a": "nat", "b": "list"}
        self.assertEqual(self.world.kind_of(A, holes), "nat")
        self.assertEqual(self.world.kind_of(B, holes), "list")
        self.assertIsNone(self.world.kind_of(hole("c"), holes))
        self.assertIsNone(self.world.kind_of(A, {}))

    def test_a_hole_with_the_name_of_a_head_has_no_kind(self):
        self.assertIsNone(self.world.kind_of(hole("zero"), {}))

    def test_builders(self):
        self.assertEqual(self.world.kind_of(ZERO, {}), "nat")
        self.assertEqual(self.world.kind_of(of("next", of("next", A)), {"a": "nat"}), "nat")
        self.assertEqual(self.world.kind_of(of("put", ZERO, of("none")), {}), "list")
        self.assertEqual(self.world.kind_of(of("yes"), {}), "flag")

    def test_operators(self):
        self.assertEqual(self.world.kind_of(of("add", A, of("next", ZERO)), {"a": "nat"}), "nat")
        self.assertEqual(self.world.kind_of(of("put", of("add", ZERO, ZERO), of("none")), {}), "list")

    def test_too_few_and_too_many_terms(self):
        for term in (
            of("zero", ZERO), of("next"), of("next", ZERO, ZERO), of("add"), of("add", ZERO),
            of("add", ZERO, ZERO, ZERO), of("put", ZERO), of("put", ZERO, of("none"), of("none")),
            of("next", ZERO, ZERO, ZERO, ZERO, ZERO), of("next", of("next")),
        ):
            with self.subTest(term=term):
                self.assertIsNone(self.world.kind_of(term, {}))

    def test_terms_of_another_kind(self):
        for term in (
            of("next", of("none")), of("add", ZERO, of("yes")), of("add", of("yes"), ZERO),
            of("put", of("none"), ZERO), of("put", ZERO, of("put", of("none"), of("none"))),
        ):
            with self.subTest(term=term):
                self.assertIsNone(self.world.kind_of(term, {}))
        self.assertIsNone(self.world.kind_of(of("next", A), {"a": "list"}))

    def test_unknown_heads_and_holes(self):
        for term in (of("null"), of("next", of("null")), of("nat"), of("next", hole("z")), of("a")):
            with self.subTest(term=term):
                self.assertIsNone(self.world.kind_of(term, {"a": "nat"}))
        self.assertIsNone(World().kind_of(ZERO, {}))

    def test_sixty_holes_and_heads(self):
        self.assertEqual(self.world.kind_of(numeral(60), {}), "nat")
        with self.assertRaises(BadTerm):
            self.world.kind_of(numeral(61), {})
        wide = A
        for _ in range(29):
            wide = of("add", wide, A)
        self.assertEqual(self.world.kind_of(of("next", wide), {"a": "nat"}), "nat")
        with self.assertRaises(BadTerm):
            self.world.kind_of(of("next", of("next", wide)), {"a": "nat"})
        # What has no kind is a term all the same, up to the bound.
        self.assertIsNone(self.world.kind_of(of("zero", *[ZERO] * 59), {}))
        with self.assertRaises(BadTerm):
            self.world.kind_of(of("zero", *[ZERO] * 60), {})

    def test_far_too_deep(self):
        with self.assertRaises(BadTerm):
            self.world.kind_of(numeral(20000), {})

    def test_what_is_no_term(self):
        for term in NO_TERMS:
            with self.subTest(term=term), self.assertRaises(BadTerm):
                self.world.kind_of(term, {})

    def test_what_is_no_term_further_inside(self):
        for term in NO_TERMS:
            with self.subTest(term=term), self.assertRaises(BadTerm):
                self.world.kind_of(of("add", ZERO, of("next", term)), {})

    def test_what_is_no_dict_of_holes(self):
        for holes in (
            None, True, 0, "", "a", [], [("a", "nat")], (), {"a"}, object(),
            {"a": "number"}, {"a": "zero"}, {"a": None}, {"a": True}, {"a": ["nat"]}, {"a": ("nat",)},
            {"zero": "nat"}, {"add": "nat"}, {"a": "nat", "put": "list"},
        ):
            with self.subTest(holes=holes), self.assertRaises(BadTerm):
                self.world.kind_of(ZERO, holes)
        with self.assertRaises(BadTerm):
            World().kind_of(A, {"a": "nat"})

    def test_keys_that_are_no_names(self):
        for name in NO_NAMES:
            if isinstance(name, (list, dict, set)):
                continue
            with self.subTest(name=name), self.assertRaises(BadTerm):
                self.world.kind_of(ZERO, {"a": "nat", name: "nat"})

    def test_kinds_that_are_no_names(self):
        for name in NO_NAMES:
            with self.subTest(name=name), self.assertRaises(BadTerm):
                self.world.kind_of(ZERO, {"a": name})

    def test_any_number_of_holes(self):
        holes = {"h" + letter: "nat" for letter in "abcdefghijklmnopqrstuvwxyz"}
        self.assertEqual(self.world.kind_of(of("add", hole("hz"), hole("hb")), holes), "nat")

    def test_both_arguments_bad(self):
        with self.assertRaises(BadTerm):
            self.world.kind_of(None, None)

    def test_the_holes_are_neither_modified_nor_kept(self):
        holes = {"a": "nat"}
        self.assertEqual(self.world.kind_of(A, holes), "nat")
        self.assertEqual(holes, {"a": "nat"})
        holes["b"] = "nat"
        self.assertIsNone(self.world.kind_of(B, {"a": "nat"}))
        holes["a"] = "list"
        self.assertEqual(self.world.kind_of(A, holes), "list")
        # Nor does a hole that was asked about bar a head.
        self.assertIn("other", self.world.with_kind("other", [("q", ())]).kinds())

    def test_a_name_is_a_head_only_in_the_world_that_has_it(self):
        self.assertEqual(numbers().kind_of(hole("none"), {"none": "nat"}), "nat")


if __name__ == "__main__":
    unittest.main()

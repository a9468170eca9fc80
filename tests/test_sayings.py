"""Sayings, by themselves and in a world: [6]."""

import unittest

from showhouse.errors import BadSaying
from showhouse.sayings import Saying
from showhouse.worlds import World
from tests.samples import A, B, NO_NAMES, NO_TERMS, ZERO, hole, lists, numbers, numeral, of, swap

SIX = {"ha": "nat", "hb": "nat", "hc": "nat", "hd": "nat", "he": "nat", "hf": "nat"}
GIVEN = (of("next", A), of("next", B))


def same(name="same", holes=None, givens=None, left=A, right=A):
    """A saying with the parts that are named, and others that are good in `lists()`."""
    return Saying(
        name, {"a": "nat", "b": "nat"} if holes is None else holes, [] if givens is None else givens, left, right,
    )


class Alone(unittest.TestCase):
    def refused(self, *parts):
        with self.assertRaises(BadSaying):
            Saying(*parts)

    def test_the_parts(self):
        saying = Saying("cut", {"b": "nat", "a": "nat"}, [GIVEN], A, B)
        self.assertEqual(saying.name(), "cut")
        self.assertEqual(list(saying.holes().items()), [("b", "nat"), ("a", "nat")])
        self.assertEqual(saying.givens(), [GIVEN])
        self.assertEqual(saying.left(), A)
        self.assertEqual(saying.right(), B)

    def test_no_holes_and_six(self):
        self.assertEqual(Saying("none", {}, [], ZERO, ZERO).holes(), {})
        self.assertEqual(Saying("six", SIX, [], ZERO, ZERO).holes(), SIX)
        self.refused("seven", {**SIX, "hg": "nat"}, [], ZERO, ZERO)

    def test_no_givens_and_four(self):
        for count in (0, 1, 4):
            self.assertEqual(same(givens=[GIVEN] * count).givens(), [GIVEN] * count)
        self.refused("five", {"a": "nat", "b": "nat"}, [GIVEN] * 5, A, B)

    def test_names_of_one_and_eight_letters(self):
        for name in ("a", "zzzzzzzz"):
            self.assertEqual(same(name).name(), name)
            self.assertEqual(same(holes={name: name}).holes(), {name: name})

    def test_what_is_no_name(self):
        for name in NO_NAMES:
            with self.subTest(name=name):
                self.refused(name, {}, [], ZERO, ZERO)
                self.refused("same", {"a": name}, [], ZERO, ZERO)
                if not isinstance(name, (list, dict, set)):
                    self.refused("same", {"a": "nat", name: "nat"}, [], ZERO, ZERO)

    def test_what_is_no_dict_of_holes(self):
        for holes in (None, True, 0, "", "a", [], ["a"], [("a", "nat")], (), {"a"}, object()):
            with self.subTest(holes=holes):
                self.refused("same", holes, [], ZERO, ZERO)

    def test_what_is_no_list_of_givens(self):
        for givens in (None, True, 0, "", (), (GIVEN,), {}, {GIVEN: GIVEN}, object()):
            with self.subTest(givens=givens):
                self.refused("same", {}, givens, ZERO, ZERO)
        for given in (None, True, 0, "ab", [ZERO, ZERO], (), (ZERO,), (ZERO, ZERO, ZERO), ("a", "b"), ZERO):
            with self.subTest(given=given):
                self.refused("same", {}, [(ZERO, ZERO), given], ZERO, ZERO)

    def test_what_is_no_term(self):
        for term in NO_TERMS:
            with self.subTest(term=term):
                self.refused("same", {}, [], term, ZERO)
                self.refused("same", {}, [], ZERO, term)
                self.refused("same", {}, [(term, ZERO)], ZERO, ZERO)
                self.refused("same", {}, [(ZERO, ZERO), (ZERO, term)], ZERO, ZERO)
                self.refused("same", {}, [], of("next", term), ZERO)

    def test_terms_of_sixty_and_sixty_one(self):
        most, more = numeral(60), numeral(61)
        self.assertEqual(same(givens=[(most, most)], left=most, right=most).right(), most)
        self.refused("big", {}, [], more, ZERO)
        self.refused("big", {}, [], ZERO, more)
        self.refused("big", {}, [(more, ZERO)], ZERO, ZERO)
        self.refused("big", {}, [(ZERO, more)], ZERO, ZERO)

    def test_regardless_of_a_world(self):
        # Holes that do not exist, unknown heads, kinds and counts are left to a world.
        saying = Saying("odd", {"a": "nowhere"}, [(hole("x"), of("y", A))], of("next"), of("a", hole("z")))
        self.assertEqual(saying.holes(), {"a": "nowhere"})
        self.assertEqual(saying.right(), of("a", hole("z")))

    def test_what_was_handed_in_is_neither_modified_nor_kept(self):
        holes, givens = {"a": "nat", "b": "nat"}, [GIVEN]
        saying = Saying("cut", holes, givens, A, B)
        self.assertEqual((holes, givens), ({"a": "nat", "b": "nat"}, [GIVEN]))
        holes["c"] = "nat"
        givens.append((A, A))
        self.assertEqual(saying.holes(), {"a": "nat", "b": "nat"})
        self.assertEqual(saying.givens(), [GIVEN])

    def test_what_was_returned_is_new(self):
        saying = Saying("cut", {"a": "nat", "b": "nat"}, [GIVEN], A, B)
        saying.holes()["c"] = "nat"
        saying.givens().append((A, A))
        self.assertEqual(saying.holes(), {"a": "nat", "b": "nat"})
        self.assertEqual(saying.givens(), [GIVEN])
        self.assertIsNot(saying.holes(), saying.holes())
        self.assertIsNot(saying.givens(), saying.givens())


class Equality(unittest.TestCase):
    def test_equal(self):
        self.assertEqual(swap(), swap())
        self.assertFalse(swap() != swap())
        self.assertEqual(same(givens=[GIVEN]), same(givens=[GIVEN]))

    def test_each_part_counts(self):
        saying = same(givens=[GIVEN, (A, B)])
        for other in (
            same("other", givens=[GIVEN, (A, B)]),
            same(holes={"a": "nat", "b": "list"}, givens=[GIVEN, (A, B)]),
            same(holes={"a": "nat"}, givens=[GIVEN, (A, B)]),
            same(holes={"a": "nat", "c": "nat"}, givens=[GIVEN, (A, B)]),
            same(givens=[GIVEN]),
            same(givens=[(A, B), GIVEN]),
            same(givens=[GIVEN, (B, A)]),
            same(givens=[GIVEN, (A, B)], left=B),
            same(givens=[GIVEN, (A, B)], right=B),
        ):
            self.assertNotEqual(saying, other)
            self.assertFalse(saying == other)

    def test_the_order_of_the_holes_counts(self):
        one = same(holes={"a": "nat", "b": "nat"})
        two = same(holes={"b": "nat", "a": "nat"})
        self.assertEqual(one.holes(), two.holes())
        self.assertNotEqual(one, two)

    def test_other_values(self):
        for other in (None, 0, "swap", ("swap",), World(), object()):
            self.assertFalse(swap() == other)
            self.assertTrue(swap() != other)


class InAWorld(unittest.TestCase):
    def setUp(self):
        self.world = lists()

    def accepted(self, saying):
        self.assertEqual(self.world.with_saying(saying).sayings(), {saying.name(): saying})

    def refused(self, saying, world=None):
        world = world or self.world
        before = (world.kinds(), world.operators(), world.sayings())
        with self.assertRaises(BadSaying):
            world.with_saying(saying)
        self.assertEqual((world.kinds(), world.operators(), world.sayings()), before)

    def test_good_sayings(self):
        self.accepted(swap())
        self.accepted(same(givens=[GIVEN], left=A, right=B))
        self.accepted(Saying("none", {}, [], of("yes"), of("no")))
        self.accepted(Saying("six", SIX, [(hole("ha"), hole("hf"))] * 4, hole("hb"), hole("hc")))

    def test_the_givens_may_have_kinds_of_their_own(self):
        givens = [(of("none"), hole("l")), (of("yes"), of("no")), (ZERO, A)]
        self.accepted(Saying("mixed", {"a": "nat", "l": "list"}, givens, A, ZERO))

    def test_what_is_no_saying(self):
        for saying in (None, True, 0, "swap", ("swap", {}, [], ZERO, ZERO), [], {}, World(), object()):
            with self.subTest(saying=saying):
                self.refused(saying)

    def test_holes_that_are_heads(self):
        for name in ("zero", "next", "add"):
            self.refused(Saying("bad", {name: "nat"}, [], ZERO, ZERO))
            self.refused(Saying("bad", {"a": "nat", name: "nat"}, [], A, A))
        # In a world without these heads they are holes.
        world = World().with_kind("nat", [("null", ())])
        saying = Saying("good", {"zero": "nat"}, [], hole("zero"), of("null"))
        self.assertEqual(world.with_saying(saying).sayings(), {"good": saying})

    def test_kinds_that_are_not_there(self):
        for kind in ("number", "zero", "add"):
            self.refused(Saying("bad", {"a": kind}, [], ZERO, ZERO))
            self.refused(Saying("bad", {"a": kind}, [], A, A))
            self.refused(Saying("bad", {"b": "nat", "a": kind}, [], B, B))

    def test_sides_of_two_kinds(self):
        self.refused(Saying("bad", {}, [], ZERO, of("none")))
        self.refused(Saying("bad", {"a": "nat", "b": "list"}, [], A, B))
        self.refused(same(givens=[(ZERO, of("yes"))]))
        self.refused(same(givens=[(A, B), (of("none"), A)]))

    def test_sides_of_no_kind(self):
        for term in (hole("z"), of("null"), of("next"), of("next", of("none")), hole("zero")):
            with self.subTest(term=term):
                self.refused(same(left=term))
                self.refused(same(right=term))
                self.refused(same(left=term, right=term))
                self.refused(same(givens=[(term, A)]))
                self.refused(same(givens=[(A, B), (A, term)]))
                self.refused(same(givens=[(term, term)]))

    def test_the_holes_of_one_saying_are_not_those_of_another(self):
        world = self.world.with_saying(same("first", holes={"a": "nat"}))
        self.refused(Saying("second", {}, [], A, A), world)

    def test_a_name_that_exists(self):
        world = self.world.with_saying(swap())
        self.refused(swap(), world)
        self.refused(Saying("swap", {}, [], ZERO, ZERO), world)
        self.assertEqual(list(world.with_saying(swap("other")).sayings()), ["swap", "other"])

    def test_the_name_of_a_head_a_kind_or_a_hole(self):
        for name in ("zero", "add", "nat", "a"):
            self.accepted(swap(name))

    def test_forty_sayings(self):
        world = self.world
        names = ["s" + first + second for first in "ab" for second in "abcdefghijklmnopqrst"]
        for name in names:
            world = world.with_saying(swap(name))
        self.assertEqual(list(world.sayings()), names)
        self.refused(swap("more"), world)

    def test_the_order_is_that_of_adding(self):
        world = numbers()
        for name in ("z", "m", "q"):
            world = world.with_saying(swap(name))
        self.assertEqual(list(world.sayings()), ["z", "m", "q"])

    def test_the_elder_world_stays_as_it_was(self):
        younger = self.world.with_saying(Saying("same", {"q": "nat"}, [], hole("q"), hole("q")))
        self.assertEqual(list(younger.sayings()), ["same"])
        self.assertEqual(self.world.sayings(), {})
        self.assertIn("other", self.world.with_kind("other", [("q", ())]).kinds())

    def test_what_was_returned_is_new(self):
        world = self.world.with_saying(swap())
        first = world.sayings()
        first["swap"].holes()["c"] = "nat"
        first["swap"].givens().append((A, A))
        first["more"] = swap("more")
        del first["swap"]
        self.assertEqual(world.sayings(), {"swap": swap()})
        self.assertIsNot(world.sayings(), world.sayings())
        self.assertIsNot(world.sayings()["swap"], world.sayings()["swap"])


if __name__ == "__main__":
    unittest.main()

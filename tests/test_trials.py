"""All small worths of a kind, and trials of sayings: [8]."""

import unittest

from showhouse.errors import BadName, BadSaying, BadSize, TooMuch
from showhouse.sayings import Saying
from showhouse.worlds import World
from showhouse.worths import tried, worths
from tests.samples import A, B, C, NO_NAMES, ZERO, hole, lists, numbers, numeral, of, swap
from tests.test_reckoned import USES_2000, busy_world, spun

NO_SIZES = [-1, 13, 100, True, False, None, "3", b"3", (), (3,), [], [3], {}, {3}, object()]
NONE = of("none")


def nat_sort(builders):
    """A world with numbers and one more kind."""
    return numbers().with_kind("thing", builders)


def size_of(worth):
    return 1 + sum(size_of(part) for part in worth[2])


def sort_key(kinds, kind, worth):
    """What [8] says of the order of worths, read off for one worth."""
    takes = dict(kinds[kind])[worth[1]]
    at = [builder for builder, _ in kinds[kind]].index(worth[1])
    return (size_of(worth), at, [sort_key(kinds, part_kind, part) for part_kind, part in zip(takes, worth[2])])


def all_worths(kinds, kind, size):
    """Every worth up to a size, found by trying all that could be arguments."""
    found = []
    for builder, takes in kinds[kind]:
        rows = [()]
        for taken in takes:
            parts = all_worths(kinds, taken, size - 1) if size > 1 else []
            rows = [row + (part,) for row in rows for part in parts]
        found.extend(("of", builder, row) for row in rows if 1 + sum(map(size_of, row)) <= size)
    return sorted(found, key=lambda worth: sort_key(kinds, kind, worth))


class Listed(unittest.TestCase):
    def test_numbers(self):
        for size in range(13):
            self.assertEqual(worths(numbers(), "nat", size), [numeral(count + 1) for count in range(size)])

    def test_the_order(self):
        two, one = numeral(3), numeral(2)
        self.assertEqual(worths(lists(), "list", 5), [
            NONE,
            of("put", ZERO, NONE),
            of("put", one, NONE),
            of("put", ZERO, of("put", ZERO, NONE)),
            of("put", two, NONE),
        ])

    def test_builders_come_ahead_of_arguments(self):
        world = nat_sort([("p", ("nat", "nat")), ("q", ("nat",)), ("r", ()), ("s", ("thing", "nat"))])
        one = numeral(2)
        self.assertEqual(worths(world, "thing", 4), [
            of("r"),
            of("q", ZERO),
            of("p", ZERO, ZERO), of("q", one), of("s", of("r"), ZERO),
            of("p", ZERO, one), of("p", one, ZERO), of("q", numeral(3)),
            of("s", of("r"), one), of("s", of("q", ZERO), ZERO),
        ])

    def test_kinds_with_one_to_four_builders(self):
        for builders in (
            [("p", ("nat",))],
            [("p", ("nat", "nat", "nat"))],
            [("p", ("thing", "nat")), ("q", ("nat",))],
            [("p", ("nat", "thing", "thing")), ("q", ()), ("r", ("thing",))],
            [("p", ("thing", "thing")), ("q", ()), ("r", ("nat",)), ("s", ())],
            [("p", ()), ("q", ()), ("r", ()), ("s", ())],
        ):
            world = nat_sort(builders)
            for size in range(6):
                with self.subTest(builders=builders, size=size):
                    found = worths(world, "thing", size)
                    self.assertEqual(found, all_worths(world.kinds(), "thing", size))
                    self.assertEqual(len(set(found)), len(found))

    def test_kinds_that_use_one_another(self):
        world = lists().with_kind("tree", [("fork", ("tree", "list", "tree")), ("leaf", ("flag",))])
        world = world.with_kind("wood", [("grow", ("tree", "wood")), ("bare", ())])
        for kind in ("list", "flag", "tree", "wood"):
            self.assertEqual(worths(world, kind, 7), all_worths(world.kinds(), kind, 7))

    def test_a_kind_without_worths_of_that_size(self):
        world = World().with_kind("unit", [("it", ())]).with_kind("three", [("tri", ("unit", "unit", "unit"))])
        self.assertEqual(worths(world, "three", 3), [])
        self.assertEqual(worths(world, "three", 4), [of("tri", of("it"), of("it"), of("it"))])
        world = world.with_kind("far", [("off", ("three", "three", "three"))])
        self.assertEqual(worths(world, "far", 12), [])

    def test_two_thousand_and_more(self):
        world = numbers().with_kind("pair", [("bare", ()), ("both", ("nat", "nat"))])
        world = world.with_kind("tall", [("up", ("tall",)), ("on", ("tall",)), ("sole", ("pair",)), ("end", ())])
        self.assertEqual(len(worths(world, "tall", 10)), 2000)
        world = numbers().with_kind("p", [("pa", ("p",)), ("pb", ()), ("pc", ("p", "p", "nat"))])
        world = world.with_kind("q", [("qa", ("q", "nat")), ("qb", ("p",)), ("qc", ()), ("qd", ())])
        self.assertLess(len(worths(world, "q", 11)), 2000)
        with self.assertRaises(TooMuch):  # there are 2001
            worths(world, "q", 12)

    def test_far_too_much_is_not_listed(self):
        world = World().with_kind("hue", [("red", ()), ("green", ()), ("blue", ()), ("grey", ())])
        own = ("many", "many", "hue")
        world = world.with_kind("many", [("ma", own), ("mb", own), ("mc", ("many", "hue")), ("md", ())])
        self.assertEqual(len(worths(world, "many", 6)), 1 + 4 + 8 + 16 + 96)
        for size in (9, 12):
            with self.assertRaises(TooMuch):
                worths(world, "many", size)
        # Nor is what could only stand beside arguments that do not exist.
        world = world.with_kind("one", [("oa", ())]).with_kind("four", [("fa", ("one", "one", "one"))])
        world = world.with_kind("far", [("xa", ("four", "four", "four"))])
        world = world.with_kind("pair", [("pa", ("many", "far")), ("pb", ("far", "many")), ("pc", ())])
        self.assertEqual(worths(world, "pair", 12), [of("pc")])

    def test_a_kind_that_is_not_there(self):
        for kind in NO_NAMES + ["number", "zero", "add"]:
            with self.subTest(kind=kind), self.assertRaises(BadName):
                worths(numbers(), kind, 3)

    def test_sizes(self):
        self.assertEqual(worths(numbers(), "nat", 0), [])
        self.assertEqual(len(worths(numbers(), "nat", 12)), 12)
        for size in NO_SIZES:
            with self.subTest(size=size), self.assertRaises(BadSize):
                worths(numbers(), "nat", size)

    def test_which_error_comes_first(self):
        own = ("many", "many", "many")
        world = World().with_kind("many", [("ma", own), ("mb", own), ("mc", ())])
        with self.assertRaises(BadName):
            worths(world, "none", -1)
        with self.assertRaises(BadSize):
            worths(world, "many", 13)

    def test_what_was_returned_is_new(self):
        world = lists()
        first = worths(world, "list", 4)
        first.append(ZERO)
        del first[0]
        self.assertEqual(worths(world, "list", 4), all_worths(world.kinds(), "list", 4))
        self.assertIsNot(worths(world, "list", 4), worths(world, "list", 4))


def less_than_world():
    """Numbers, and whether one is less than another."""
    world = numbers().with_kind("flag", [("yes", ()), ("no", ())])
    world = world.with_operator("isnt", ("nat",), "flag", [
        (of("isnt", ZERO), of("no")), (of("isnt", of("next", A)), of("yes")),
    ])
    return world.with_operator("pred", ("nat",), "nat", [
        (of("pred", ZERO), ZERO), (of("pred", of("next", A)), A),
    ])


class Tried(unittest.TestCase):
    def check(self, world, saying, size, expected):
        found = tried(world, saying, size=size)
        if expected is None:
            self.assertIsNone(found)
        else:
            self.assertEqual(list(found.items()), list(expected.items()))

    def too_much(self, world, saying, size):
        with self.assertRaises(TooMuch):
            tried(world, saying, size=size)

    def test_what_holds(self):
        for size in range(7):
            self.check(numbers(), swap(), size, None)
        self.assertIsNone(tried(numbers(), swap()))

    def test_the_size_is_three_if_nothing_is_said(self):
        # The first number that spoils it is 2, a worth of three heads.
        saying = Saying("small", {"a": "nat"}, [], of("pred", of("pred", A)), ZERO)
        world = less_than_world()
        self.check(world, saying, 3, None)
        self.assertIsNone(tried(world, saying))
        self.assertEqual(tried(world, saying, size=4), {"a": numeral(4)})
        saying = Saying("small", {"a": "nat"}, [], of("pred", A), ZERO)
        self.check(world, saying, 2, None)
        self.assertEqual(tried(world, saying), {"a": numeral(3)})

    def test_the_last_hole_changes_fastest(self):
        saying = Saying("same", {"a": "nat", "b": "nat", "c": "nat"}, [], A, B)
        self.check(numbers(), saying, 3, {"a": ZERO, "b": numeral(2), "c": ZERO})
        saying = Saying("same", {"b": "nat", "a": "nat"}, [], A, ZERO)
        self.check(numbers(), saying, 3, {"b": ZERO, "a": numeral(2)})
        saying = Saying("same", {"a": "nat", "b": "nat"}, [], of("add", A, B), of("add", A, A))
        self.check(numbers(), saying, 3, {"a": ZERO, "b": numeral(2)})

    def test_all_assignments_in_order(self):
        # Each of these sayings is spoiled by one assignment only, because its givens tell it.
        values = [numeral(1), numeral(2), numeral(3)]
        for one in values:
            for two in values:
                saying = Saying("not", {"b": "nat", "a": "nat"}, [(A, one), (B, two)], ZERO, of("next", ZERO))
                self.check(numbers(), saying, 3, {"b": two, "a": one})

    def test_holes_of_several_kinds(self):
        saying = Saying("odd", {"l": "list", "a": "nat"}, [(hole("l"), of("put", A, NONE))], A, ZERO)
        self.check(lists(), saying, 4, {"l": of("put", numeral(2), NONE), "a": numeral(2)})
        self.check(lists(), saying, 3, None)

    def test_a_hole_that_stands_nowhere(self):
        saying = Saying("odd", {"f": "flag", "a": "nat"}, [], A, ZERO)
        self.check(lists(), saying, 2, {"f": of("yes"), "a": numeral(2)})

    def test_without_holes(self):
        for size in (0, 3, 12):
            self.check(numbers(), Saying("same", {}, [], ZERO, of("add", ZERO, ZERO)), size, None)
            self.check(numbers(), Saying("other", {}, [], ZERO, numeral(2)), size, {})
            self.check(numbers(), Saying("given", {}, [(ZERO, numeral(2))], ZERO, numeral(2)), size, None)

    def test_no_worths_of_that_size(self):
        self.check(numbers(), Saying("bad", {"a": "nat"}, [], ZERO, numeral(2)), 0, None)
        world = numbers().with_kind("far", [("off", ("nat", "nat", "nat"))])
        saying = Saying("bad", {"a": "nat", "f": "far"}, [], ZERO, numeral(2))
        self.check(world, saying, 3, None)
        self.check(world, saying, 4, {"a": ZERO, "f": of("off", ZERO, ZERO, ZERO)})

    def test_givens(self):
        given = (of("next", A), of("next", B))
        self.check(numbers(), Saying("cut", {"a": "nat", "b": "nat"}, [given], A, B), 4, None)
        saying = Saying("cut", {"a": "nat", "b": "nat"}, [given], A, ZERO)
        self.check(numbers(), saying, 4, {"a": numeral(2), "b": numeral(2)})
        saying = Saying("cut", {"a": "nat", "b": "nat"}, [given, (B, numeral(3))], A, ZERO)
        self.check(numbers(), saying, 4, {"a": numeral(3), "b": numeral(3)})

    def test_a_given_behind_one_that_differs_is_not_evaluated(self):
        world = busy_world()
        much = spun((10,))
        for givens in ([(A, of("next", A)), (much, ZERO)], [(A, of("next", A)), (ZERO, much)]):
            self.check(world, Saying("odd", {"a": "nat"}, givens, ZERO, numeral(2)), 3, None)
            self.check(world, Saying("odd", {"a": "nat"}, givens, much, much), 3, None)
            self.too_much(world, Saying("odd", {"a": "nat"}, list(reversed(givens)), ZERO, ZERO), 3)

    def test_both_sides_are_evaluated(self):
        world = busy_world()
        much = spun((10,))
        for pair in ((much, ZERO), (ZERO, much)):
            self.too_much(world, Saying("odd", {}, [], *pair), 3)
            self.too_much(world, Saying("odd", {}, [pair], ZERO, ZERO), 3)
            self.too_much(world, Saying("odd", {}, [(ZERO, ZERO), pair], ZERO, ZERO), 3)

    def test_each_side_has_its_own_count(self):
        most = spun(USES_2000)
        saying = Saying("most", {"a": "nat"}, [(most, most), (ZERO, most)], most, most)
        self.check(busy_world(), saying, 2, None)

    def test_too_many_worths_ahead_of_all(self):
        own = ("many", "many")
        world = numbers().with_kind("many", [("ma", own), ("mb", own), ("mc", own), ("md", ())])
        world = world.with_kind("three", [("tri", ("nat", "nat", "nat"))])
        world = world.with_kind("far", [("off", ("three", "three", "three"))])
        spoiled = (ZERO, numeral(2))
        self.check(world, Saying("bad", {"m": "many"}, [], *spoiled), 10, {"m": of("md")})
        self.too_much(world, Saying("bad", {"m": "many"}, [], *spoiled), 11)
        # Even if there are no assignments at all.
        self.too_much(world, Saying("bad", {"m": "many", "f": "far"}, [], *spoiled), 11)
        self.too_much(world, Saying("bad", {"f": "far", "m": "many"}, [], *spoiled), 11)
        self.check(world, Saying("bad", {"m": "many", "f": "far"}, [], *spoiled), 10, None)

    def test_two_thousand_assignments_and_more(self):
        world = lists().with_kind("hue", [("red", ()), ("green", ()), ("blue", ())])
        holes = {"a": "nat", "b": "nat", "c": "nat"}
        last = numeral(10)
        givens = [(A, last), (B, last), (C, last)]
        saying = Saying("last", {**holes, "f": "flag"}, givens + [(hole("f"), of("no"))], ZERO, numeral(2))
        self.check(world, saying, 10, {"a": last, "b": last, "c": last, "f": of("no")})
        self.check(world, Saying("first", {**holes, "f": "flag"}, [], A, of("next", A)), 10,
                   {"a": ZERO, "b": ZERO, "c": ZERO, "f": of("yes")})
        # Too many, although the first of them would be the result.
        self.too_much(world, Saying("first", {**holes, "h": "hue"}, [], A, of("next", A)), 10)
        self.too_much(world, Saying("first", {**holes, "d": "nat"}, [], A, of("next", A)), 10)
        # Two kinds with 3 and 667 worths have 2001 assignments.
        world = world.with_kind("sole", [("it", ())]).with_kind("much", [
            ("ma", ("much", "sole", "much")), ("mb", ("much",)), ("mc", ()), ("md", ("nat", "nat")),
        ])
        self.assertEqual(len(worths(world, "much", 10)), 667)
        self.too_much(world, Saying("first", {"m": "much", "h": "hue"}, [], ZERO, of("next", ZERO)), 10)
        self.check(world, Saying("first", {"m": "much", "f": "flag"}, [], ZERO, of("next", ZERO)), 10,
                   {"m": of("mc"), "f": of("yes")})

    def test_many_worths_but_no_assignment(self):
        world = numbers().with_kind("three", [("tri", ("nat", "nat", "nat"))])
        world = world.with_kind("far", [("off", ("three", "three", "three"))])
        holes = {name: "nat" for name in "abcde"}
        self.check(world, Saying("none", {**holes, "f": "far"}, [], A, of("next", A)), 12, None)
        self.too_much(world, Saying("none", holes, [], A, of("next", A)), 12)

    def test_an_evaluation_that_is_too_much(self):
        world = busy_world()
        # Of the worths up to twelve heads only the last two take more than 2000 uses of rows.
        saying = Saying("spin", {"a": "nat"}, [], of("spin", A, ZERO), ZERO)
        self.check(world, saying, 10, None)
        self.too_much(world, saying, 11)
        saying = Saying("spin", {"a": "nat"}, [(of("spin", A, ZERO), ZERO)], ZERO, ZERO)
        self.check(world, saying, 10, None)
        self.too_much(world, saying, 11)

    def test_a_result_ahead_of_what_is_too_much(self):
        world = busy_world()
        saying = Saying("spin", {"a": "nat"}, [(of("spin", A, ZERO), ZERO)], of("add", A, A), A)
        self.check(world, saying, 12, {"a": numeral(2)})
        # What is too much comes first if it is met first.
        saying = Saying("spin", {"b": "nat", "a": "nat"}, [(of("spin", A, ZERO), ZERO)], B, ZERO)
        self.check(world, saying, 10, {"b": numeral(2), "a": ZERO})
        self.too_much(world, saying, 11)

    def test_a_term_that_becomes_too_large(self):
        sides = A
        for _ in range(12):
            sides = of("drop", A, sides)
        # 12 heads, and 13 times the worth: 51 heads, then 64.
        world = busy_world()
        saying = Saying("large", {"a": "nat"}, [], sides, A)
        self.check(world, saying, 3, None)
        self.too_much(world, saying, 4)
        self.too_much(world, Saying("large", {"a": "nat"}, [], A, sides), 4)
        self.too_much(world, Saying("large", {"a": "nat"}, [(A, sides)], A, A), 4)
        # A result comes ahead of it, and so does a given that differs.
        self.check(world, Saying("large", {"a": "nat"}, [], sides, ZERO), 4, {"a": numeral(2)})
        self.check(world, Saying("large", {"a": "nat"}, [(A, ZERO), (sides, A)], A, ZERO), 4, None)

    def test_a_term_of_sixty_and_sixty_one(self):
        world = busy_world()
        for least in (60, 61):
            # Four holes for a worth of twelve heads each, four times `drop`, and what is left.
            side = numeral(least - 4 * 12 - 4)
            for _ in range(4):
                side = of("drop", A, side)
            saying = Saying("exact", {"a": "nat"}, [(A, numeral(12))], side, side)
            if least > 60:
                self.too_much(world, saying, 12)
            else:
                self.check(world, saying, 12, None)

    def test_what_is_no_saying_of_the_world(self):
        for saying in (
            None, True, 0, "swap", (), [], {}, object(), World(),
            Saying("bad", {"a": "list"}, [], A, A), Saying("bad", {}, [], A, A),
            Saying("bad", {"zero": "nat"}, [], ZERO, ZERO), Saying("bad", {"a": "nat"}, [(A, of("yes"))], A, A),
            Saying("bad", {"a": "nat"}, [], A, of("none")), Saying("bad", {"a": "nat"}, [], of("null"), of("null")),
        ):
            for size in (3, -1, None):
                with self.subTest(saying=saying, size=size), self.assertRaises(BadSaying):
                    tried(numbers(), saying, size=size)

    def test_its_name_counts_for_nothing(self):
        world = numbers().with_saying(swap())
        for name in ("swap", "other", "add", "zero", "nat", "a"):
            self.assertIsNone(tried(world, swap(name)))

    def test_a_world_that_has_no_room(self):
        world = numbers()
        for one in "abcd":
            for two in "abcdefghij":
                world = world.with_saying(swap(one + two))
        self.assertIsNone(tried(world, swap()))

    def test_sizes(self):
        saying = Saying("same", {"a": "nat"}, [], A, A)
        for size in (0, 12):
            self.assertIsNone(tried(numbers(), saying, size=size))
        for size in NO_SIZES:
            with self.subTest(size=size), self.assertRaises(BadSize):
                tried(numbers(), saying, size=size)
        own = ("many", "many", "many")
        world = World().with_kind("many", [("ma", own), ("mb", own), ("mc", ())])
        with self.assertRaises(BadSize):
            tried(world, Saying("same", {"m": "many"}, [], hole("m"), hole("m")), size=13)

    def test_what_was_returned_is_new(self):
        saying = Saying("same", {"a": "nat", "b": "nat"}, [], A, B)
        world = numbers()
        first = tried(world, saying)
        first["a"] = NONE
        del first["b"]
        self.check(world, saying, 3, {"a": ZERO, "b": numeral(2)})
        self.assertEqual(saying.holes(), {"a": "nat", "b": "nat"})


if __name__ == "__main__":
    unittest.main()

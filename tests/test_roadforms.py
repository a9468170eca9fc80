"""What is a road, and what `run_road` refuses: [17], and the interface."""

import unittest

from showhouse.errors import BadSaying, BadShowing
from showhouse.roads import Left, Shown, run_road
from showhouse.sayings import Saying
from tests.judging import F, NAT_A, NATS, YES, add, after, full_world
from tests.roading import OPEN, PLAIN, first, lean, seek, split, through
from tests.samples import A, B, C, NO_NAMES, NO_NUMBERS, NO_TERMS, ZERO, hole, numeral, of, swap


class Forms(unittest.TestCase):
    def setUp(self):
        self.world = full_world()
        self.goal = Saying("goal", NATS, [], add(A, B), B)

    def ran(self, road):
        return run_road(self.world, self.goal, road)

    def takes(self, *roads):
        for road in roads:
            with self.subTest(road=road):
                self.assertIsInstance(self.ran(road), (Shown, Left))

    def refuses(self, *values):
        """None of these values is a road, and neither is a road in which they are."""
        for value in values:
            for road in (value, through("a", PLAIN, value), ("peel", 0, value), ("so", A, B, value, PLAIN),
                         ("so", A, B, PLAIN, value), lean(("row", "add", 0), value), first(PLAIN, value), split("a", value)):
                with self.subTest(road=road), self.assertRaises(BadShowing):
                    self.ran(road)

    def test_what_is_no_tuple_or_has_no_word(self):
        self.refuses(None, True, 0, "", "plain", b"plain", [], ["plain"], {}, {"plain"}, object(), ())
        self.refuses(("chain", ()), ("Plain",), ("",), (None,), (True,), (0,), (("plain",),), (["plain"],), ("go",), ("on",))

    def test_roads_that_stand_alone(self):
        self.takes(PLAIN, OPEN)
        self.refuses(("plain", ()), ("plain", PLAIN), ("open", 0), ("open", OPEN), ("plain", None))

    def test_seek(self):
        self.takes(*[seek(most=most) for most in range(7)], seek("swap", "add"), seek("what", "what"),
                   seek(*["swap"] * 50))
        self.refuses(*[seek("swap", most=most) for most in (-1, 7, True, False, None, "4", (), [4], 100)])
        self.refuses(*[("seek", names, 4) for names in (None, "swap", ["swap"], {"swap"}, 0, ("swap", ["a"]))])
        self.refuses(*[seek(value) for value in NO_NAMES], *[seek("swap", value) for value in NO_NAMES])
        self.refuses(("seek",), ("seek", ()), ("seek", (), 4, 4), ("seek", 4, ()))

    def test_cases(self):
        for word in ("through", "split"):
            self.takes((word, "a", ()), (word, "a", (PLAIN,) * 20), (word, "what", (PLAIN,)))
            self.refuses(*[(word, value, (PLAIN, PLAIN)) for value in NO_NAMES])
            self.refuses(*[(word, "a", value) for value in (None, "", [], [PLAIN], {}, 0, PLAIN, (PLAIN, [PLAIN]))])
            self.refuses((word,), (word, "a"), (word, "a", (), ()), (word, (), "a"))

    def test_peel_and_never(self):
        self.takes(("peel", 0, PLAIN), ("peel", 999, PLAIN), ("never", 0), ("never", 999))
        self.refuses(*[("peel", value, PLAIN) for value in NO_NUMBERS], *[("never", value) for value in NO_NUMBERS])
        self.refuses(("peel",), ("peel", 0), ("peel", 0, PLAIN, PLAIN), ("never",), ("never", 0, PLAIN), ("peel", PLAIN, 0))

    def test_so(self):
        self.takes(("so", A, B, PLAIN, PLAIN), ("so", C, YES, PLAIN, PLAIN), ("so", numeral(60), hole("x"), PLAIN, PLAIN))
        for value in NO_TERMS + [numeral(61)]:
            self.refuses(("so", value, B, PLAIN, PLAIN), ("so", A, value, PLAIN, PLAIN))
        self.refuses(("so",), ("so", A, B), ("so", A, B, PLAIN), ("so", A, B, PLAIN, PLAIN, PLAIN), ("so", A, B, (PLAIN, PLAIN)))

    def test_lean(self):
        for by in (("row", "add", 0), ("row", "what", 999), ("saying", "what"), ("held", 999), ("given", 0)):
            for place in ((), (0,), (999, 0), (0,) * 100):
                for way in ("on", "back"):
                    self.takes(lean(by, PLAIN, place, way))
        for value in NO_NUMBERS:
            self.refuses(*[lean(by, PLAIN) for by in (("row", "add", value), ("held", value), ("given", value))])
            self.refuses(lean(("given", 0), PLAIN, (value,)), lean(("given", 0), PLAIN, (0, value)))
        for value in NO_NAMES:
            self.refuses(lean(("row", value, 0), PLAIN), lean(("saying", value), PLAIN))
        self.refuses(*[lean(by, PLAIN) for by in (
            None, (), "row", ["held", 0], ("row", "add"), ("row", "add", 0, 0), ("saying",), ("saying", "swap", 0),
            ("held", 0, 0), ("given",), ("rows", "add", 0), ("held", "swap"), ({}, 0), ("saying", 0), ("peel", 0),
        )])
        self.refuses(*[lean(("given", 0), PLAIN, place) for place in (None, [], [0], 0, "", "-", {}, {0}, "0")])
        self.refuses(*[lean(("given", 0), PLAIN, (), way) for way in (None, "", "off", 0, True, "On", ("on",), ["on"], {})])
        self.refuses(("lean",), ("lean", ("given", 0), "on", ()), ("lean", ("given", 0), "on", (), PLAIN, PLAIN),
                     ("lean", ("given", 0), "on", (), {}, PLAIN))

    def test_first(self):
        self.takes(first(OPEN), first(*[OPEN] * 8))
        self.refuses(first(), first(*[OPEN] * 9), ("first",), ("first", OPEN), ("first", [OPEN]), ("first", None),
                     ("first", (OPEN,), (OPEN,)), ("first", "open"), ("first", (OPEN, ())))

    def test_nesting(self):
        for deeper in (
            lambda road: ("peel", 0, road), lambda road: ("so", A, B, road, OPEN), lambda road: ("so", A, B, OPEN, road),
            lambda road: through("a", OPEN, road), lambda road: split("a", road), first, lambda road: first(OPEN, road),
            lambda road: lean(("given", 0), road),
        ):
            for inmost in (PLAIN, OPEN, seek("swap"), ("never", 0), split("a")):
                road = inmost
                for _ in range(11):
                    road = deeper(road)
                self.takes(road)
                with self.assertRaises(BadShowing):
                    self.ran(deeper(road))


class Calls(unittest.TestCase):
    def test_a_bad_saying_comes_first(self):
        world = full_world()
        for value in (None, True, 0, "swap", ("swap",), {}, [], object(), PLAIN):
            for road in (PLAIN, None, ("what",)):
                with self.assertRaises(BadSaying):
                    run_road(world, value, road)
        for saying in (
            Saying("goal", {"a": "what"}, [], A, A), Saying("goal", {"a": "nat"}, [], A, B),
            Saying("goal", {"zero": "nat"}, [], ZERO, ZERO), Saying("goal", NAT_A, [(A, YES)], A, A),
            Saying("goal", {"a": "nat", "f": "flag"}, [], A, F), Saying("goal", {}, [], of("what"), of("what")),
        ):
            for road in (PLAIN, None):
                with self.assertRaises(BadSaying):
                    run_road(world, saying, road)
        with self.assertRaises(BadShowing):
            run_road(world, swap(), None)

    def test_a_name_that_is_there_already(self):
        self.assertEqual(run_road(full_world(), swap(), seek("swap")).made[1][0][0], ("saying", "swap"))

    def test_nothing_is_kept_or_modified(self):
        world, goal = full_world(), Saying("goal", NATS, [(after(A), after(B))], A, B)
        road = ("peel", 0, lean(("given", 1), PLAIN))
        before = (world.kinds(), world.operators(), world.sayings())
        found = run_road(world, goal, road)
        self.assertEqual((world.kinds(), world.operators(), world.sayings()), before)
        self.assertEqual(road, ("peel", 0, ("lean", ("given", 1), "on", (), ("plain",))))
        self.assertEqual(goal, Saying("goal", NATS, [(after(A), after(B))], A, B))
        self.assertEqual(found.made[0], "peel")


if __name__ == "__main__":
    unittest.main()

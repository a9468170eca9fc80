"""Worlds as wholes: the empty one, and when two are equal."""

import unittest

from showhouse.sayings import Saying
from showhouse.worlds import World
from tests.samples import A, ADD_ROWS, B, FLAG, LIST, NAT, ZERO, hole, lists, numbers, of, swap


class Empty(unittest.TestCase):
    def test_the_empty_world(self):
        world = World()
        self.assertEqual((world.kinds(), world.operators(), world.sayings()), ({}, {}, {}))
        self.assertIsNone(world.kind_of(ZERO, {}))
        self.assertIsNone(world.kind_of(A, {}))

    def test_two_empty_worlds_share_nothing(self):
        World().with_kind("nat", NAT)
        self.assertEqual(World().kinds(), {})


class Interface(unittest.TestCase):
    def test_the_methods_are_defined_in_the_classes_themselves(self):
        for name in ("with_kind", "with_operator", "with_saying", "kinds", "operators", "sayings", "kind_of"):
            self.assertIn(name, vars(World))
        for name in ("name", "holes", "givens", "left", "right"):
            self.assertIn(name, vars(Saying))
        self.assertEqual(World.__module__, "showhouse.worlds")
        self.assertEqual(Saying.__module__, "showhouse.sayings")


class Equality(unittest.TestCase):
    def differ(self, one, two):
        self.assertNotEqual(one, two)
        self.assertFalse(one == two)
        self.assertTrue(one != two)

    def test_equal(self):
        self.assertEqual(World(), World())
        self.assertEqual(numbers(), numbers())
        self.assertEqual(lists().with_saying(swap()), lists().with_saying(swap()))
        self.assertFalse(lists() != lists())

    def test_more_or_less(self):
        self.differ(World(), World().with_kind("nat", NAT))
        self.differ(World().with_kind("nat", NAT), numbers())
        self.differ(numbers(), numbers().with_saying(swap()))

    def test_the_names_and_the_builders_of_kinds_count(self):
        world = World().with_kind("flag", FLAG)
        self.differ(world, World().with_kind("truth", FLAG))
        self.differ(world, World().with_kind("flag", [("yes", ()), ("never", ())]))
        self.differ(world, World().with_kind("flag", [("no", ()), ("yes", ())]))
        self.differ(World().with_kind("nat", NAT), World().with_kind("nat", [("zero", ()), ("next", ("nat",) * 2)]))

    def test_the_order_of_the_kinds_counts(self):
        one = World().with_kind("nat", NAT).with_kind("flag", FLAG)
        two = World().with_kind("flag", FLAG).with_kind("nat", NAT)
        self.assertEqual(one.kinds(), two.kinds())
        self.differ(one, two)

    def test_all_parts_of_operators_count(self):
        base = World().with_kind("nat", NAT).with_kind("list", LIST)
        world = base.with_operator("pick", ("nat", "nat"), "nat", [(of("pick", A, B), A)])
        self.differ(world, base.with_operator("pack", ("nat", "nat"), "nat", [(of("pack", A, B), A)]))
        self.differ(world, base.with_operator("pick", ("nat", "nat"), "nat", [(of("pick", A, B), B)]))
        self.differ(world, base.with_operator("pick", ("nat", "nat"), "nat", [(of("pick", B, A), B)]))
        self.differ(world, base.with_operator("pick", ("nat", "list"), "nat", [(of("pick", A, B), A)]))
        self.differ(world, base.with_operator("pick", ("list", "nat"), "list", [(of("pick", A, B), A)]))

    def test_the_order_of_the_rows_counts(self):
        base = World().with_kind("nat", NAT)
        one = base.with_operator("add", ("nat", "nat"), "nat", ADD_ROWS)
        two = base.with_operator("add", ("nat", "nat"), "nat", ADD_ROWS[::-1])
        self.differ(one, two)

    def test_the_order_of_the_operators_counts(self):
        base = World().with_kind("nat", NAT)
        parts = [("one", [(of("one"), ZERO)]), ("two", [(of("two"), ZERO)])]
        worlds = []
        for order in (parts, parts[::-1]):
            world = base
            for name, rows in order:
                world = world.with_operator(name, (), "nat", rows)
            worlds.append(world)
        self.assertEqual(worlds[0].operators(), worlds[1].operators())
        self.differ(worlds[0], worlds[1])

    def test_the_sayings_and_their_order_count(self):
        one = numbers().with_saying(swap("one")).with_saying(swap("two"))
        two = numbers().with_saying(swap("two")).with_saying(swap("one"))
        self.assertEqual(one.sayings(), two.sayings())
        self.differ(one, two)

    def test_the_order_of_the_holes_of_sayings_counts(self):
        one = Saying("same", {"a": "nat", "b": "nat"}, [], hole("a"), hole("a"))
        two = Saying("same", {"b": "nat", "a": "nat"}, [], hole("a"), hole("a"))
        self.differ(numbers().with_saying(one), numbers().with_saying(two))

    def test_other_values(self):
        for other in (None, 0, "", {}, ({}, {}, {}), swap(), object()):
            self.differ(World(), other)


if __name__ == "__main__":
    unittest.main()

"""Names, kinds, builders and how many of them there are: [2] and [3]."""

import unittest

from showhouse.errors import BadKind
from showhouse.sayings import Saying
from showhouse.worlds import World
from tests.samples import A, ADD_ROWS, LIST, NAT, NO_NAMES, ZERO, hole, numbers, of


def refused(case, world, name, builders):
    """Check that the kind is refused, and that this changes nothing."""
    before = (world.kinds(), world.operators(), world.sayings())
    with case.assertRaises(BadKind):
        world.with_kind(name, builders)
    case.assertEqual((world.kinds(), world.operators(), world.sayings()), before)


def letter(index):
    return "abcdefghijklmnopqrstuvwxyz"[index]


def crowd(count):
    """A world of one kind and `count` heads: a builder, and operators without arguments."""
    world = World().with_kind("nat", [("zero", ())])
    for index in range(count - 1):
        name = "op" + letter(index // 26) + letter(index % 26)
        world = world.with_operator(name, (), "nat", [(of(name), ZERO)])
    return world


class Names(unittest.TestCase):
    def test_one_and_eight_letters(self):
        for name in ("a", "z", "abcdefgh", "zzzzzzzz"):
            world = World().with_kind(name, [("zero", ())])
            self.assertEqual(world.kinds(), {name: [("zero", ())]})
            world = World().with_kind("nat", [(name, ())])
            self.assertEqual(world.kinds(), {"nat": [(name, ())]})

    def test_what_is_no_name_of_a_kind(self):
        for name in NO_NAMES:
            with self.subTest(name=name):
                refused(self, World(), name, [("zero", ())])

    def test_what_is_no_name_of_a_builder(self):
        for name in NO_NAMES:
            with self.subTest(name=name):
                refused(self, World(), "nat", [(name, ())])
                refused(self, World(), "nat", [("zero", ()), (name, ())])

    def test_what_is_no_name_of_a_kind_taken(self):
        for name in NO_NAMES:
            with self.subTest(name=name):
                refused(self, World(), "nat", [("zero", ()), ("next", (name,))])


class Kinds(unittest.TestCase):
    def test_a_kind(self):
        world = World().with_kind("nat", NAT)
        self.assertEqual(world.kinds(), {"nat": [("zero", ()), ("next", ("nat",))]})
        self.assertEqual(world.operators(), {})
        self.assertEqual(world.sayings(), {})

    def test_the_order_is_that_of_adding(self):
        world = World().with_kind("z", [("zz", ())]).with_kind("a", [("ab", ()), ("aa", ())])
        self.assertEqual(list(world.kinds().items()), [("z", [("zz", ())]), ("a", [("ab", ()), ("aa", ())])])

    def test_one_to_four_builders(self):
        names = [("ba", ()), ("bb", ()), ("bc", ()), ("bd", ()), ("be", ())]
        for count in (1, 2, 3, 4):
            self.assertEqual(World().with_kind("nat", names[:count]).kinds(), {"nat": names[:count]})
        refused(self, World(), "nat", [])
        refused(self, World(), "nat", names)

    def test_no_to_three_arguments(self):
        for count in (0, 1, 2, 3):
            builders = [("zero", ()), ("many", ("nat",) * count)]
            self.assertEqual(World().with_kind("nat", builders).kinds(), {"nat": builders})
        refused(self, World(), "nat", [("zero", ()), ("many", ("nat",) * 4)])

    def test_arguments_of_earlier_kinds_and_of_the_kind_itself(self):
        world = World().with_kind("nat", NAT)
        self.assertEqual(world.with_kind("list", LIST).kinds()["list"], LIST)
        pair = [("pair", ("nat", "nat"))]
        self.assertEqual(world.with_kind("both", pair).kinds()["both"], pair)

    def test_arguments_of_kinds_that_are_not_there(self):
        refused(self, World(), "list", LIST)
        refused(self, World(), "nat", [("zero", ()), ("next", ("number",))])
        # A builder is no kind.
        refused(self, World(), "nat", [("zero", ()), ("next", ("zero",))])

    def test_one_builder_takes_only_earlier_kinds(self):
        refused(self, World(), "nat", [("next", ("nat",))])
        refused(self, World(), "nat", [("next", ("nat",)), ("more", ("nat", "nat"))])
        world = World().with_kind("nat", NAT)
        refused(self, world, "list", [("put", ("nat", "list"))])
        builders = [("put", ("nat", "list")), ("last", ("nat",))]
        self.assertEqual(world.with_kind("list", builders).kinds()["list"], builders)

    def test_what_is_no_list_of_builders(self):
        good = ("zero", ())
        for builders in (None, True, 0, "zero", (), (good,), {"zero": ()}, {good}, object()):
            with self.subTest(builders=builders):
                refused(self, World(), "nat", builders)
        for builder in (
            None, True, 1, "zero", ["zero", ()], (), ("zero",), ("zero", (), ()), ("zero", []), ("zero", None),
            ("zero", "nat"), ("zero", {}), (("zero",), ()), ((), "zero"),
        ):
            with self.subTest(builder=builder):
                refused(self, World(), "nat", [good, builder])

    def test_a_kind_that_exists(self):
        world = World().with_kind("nat", NAT)
        refused(self, world, "nat", [("null", ())])
        refused(self, world, "nat", NAT)

    def test_a_kind_may_have_the_name_of_a_head_or_a_hole(self):
        world = numbers()
        for name in ("zero", "add", "a"):
            self.assertIn(name, world.with_kind(name, [("other", (name,)), ("base", ())]).kinds())
        self.assertIn("nat", World().with_kind("nat", [("nat", ())]).kinds())


class Heads(unittest.TestCase):
    def test_a_builder_twice(self):
        refused(self, World(), "nat", [("zero", ()), ("zero", ())])
        refused(self, World(), "nat", [("zero", ()), ("zero", ("nat",))])

    def test_a_head_that_exists(self):
        refused(self, numbers(), "other", [("zero", ())])
        refused(self, numbers(), "other", [("fresh", ()), ("next", ())])
        refused(self, numbers(), "other", [("add", ())])

    def test_a_hole_of_a_row(self):
        refused(self, numbers(), "other", [("a", ())])
        refused(self, numbers(), "other", [("fresh", ()), ("b", ())])

    def test_a_hole_of_a_saying(self):
        saying = Saying("same", {"q": "nat", "r": "nat"}, [], hole("q"), hole("q"))
        world = numbers().with_saying(saying)
        # A hole counts even if no term of the saying has it.
        for name in ("q", "r"):
            refused(self, world, "other", [("fresh", ()), (name, ())])
            self.assertIn("other", numbers().with_kind("other", [(name, ())]).kinds())

    def test_the_name_of_a_saying_may_be_a_head(self):
        world = numbers().with_saying(Saying("same", {}, [], ZERO, ZERO))
        self.assertIn("other", world.with_kind("other", [("same", ())]).kinds())

    def test_forty_heads(self):
        four = [("wa", ()), ("wb", ()), ("wc", ()), ("wd", ())]
        for count in (1, 2, 3, 4):
            world = crowd(40 - count)
            self.assertIn("full", world.with_kind("full", four[:count]).kinds())
            if count < 4:
                refused(self, world, "full", four[:count + 1])
        refused(self, crowd(40), "full", four[:1])


class HowMany(unittest.TestCase):
    def test_six_kinds(self):
        world = World()
        for index in range(6):
            world = world.with_kind("k" + letter(index), [("b" + letter(index), ())])
        self.assertEqual(list(world.kinds()), ["ka", "kb", "kc", "kd", "ke", "kf"])
        refused(self, world, "kg", [("bg", ())])


class Growing(unittest.TestCase):
    def test_the_elder_world_stays_as_it_was(self):
        elder = World()
        younger = elder.with_kind("nat", NAT)
        self.assertEqual(elder.kinds(), {})
        self.assertIsNone(elder.kind_of(ZERO, {}))
        youngest = younger.with_kind("list", LIST)
        self.assertEqual(younger.kinds(), {"nat": NAT})
        self.assertIsNone(younger.kind_of(of("none"), {}))
        self.assertEqual(list(youngest.kinds()), ["nat", "list"])
        # The names that the younger ones take are still free in the elder ones.
        self.assertEqual(elder.with_kind("list", [("none", ())]).kinds(), {"list": [("none", ())]})
        grown = younger.with_operator("add", ("nat", "nat"), "nat", ADD_ROWS)
        self.assertEqual(grown.kind_of(A, {"a": "nat"}), "nat")
        self.assertIn("other", younger.with_kind("other", [("a", ())]).kinds())

    def test_what_was_handed_in_is_not_kept(self):
        builders = list(NAT)
        world = World().with_kind("nat", builders)
        builders.append(("more", ()))
        builders[0] = ("null", ())
        self.assertEqual(world.kinds(), {"nat": NAT})
        self.assertIsNone(world.kind_of(of("more"), {}))

    def test_what_was_handed_in_is_not_modified(self):
        builders = list(NAT)
        World().with_kind("nat", builders)
        self.assertEqual(builders, NAT)

    def test_what_was_returned_is_new(self):
        world = World().with_kind("nat", NAT)
        first = world.kinds()
        first["nat"].append(("more", ()))
        first["other"] = []
        self.assertEqual(world.kinds(), {"nat": NAT})
        self.assertIsNot(world.kinds(), world.kinds())
        self.assertIsNot(world.kinds()["nat"], world.kinds()["nat"])


if __name__ == "__main__":
    unittest.main()

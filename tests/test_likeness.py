"""Likeness of worlds: [23]."""

import itertools
import unittest

from showhouse.leading import likeness
from showhouse.sayings import Saying
from showhouse.worlds import World
from tests.judging import add, after, full_world
from tests.samples import A, ADD_ROWS, B, C, FLAG, LIST, NAT, ZERO, hole, lists, numbers, of


def constant(world, *names, kind="nat", worth=ZERO):
    for name in names:
        world = world.with_operator(name, (), kind, [(of(name), worth)])
    return world


def nats():
    return World().with_kind("nat", NAT)


def renamed(term, names, holes=None):
    if term[0] == "hole":
        return ("hole", (holes or {}).get(term[1], term[1]))
    return ("of", names.get(term[1], term[1]), tuple(renamed(part, names, holes) for part in term[2]))


def is_like(one, other, kinds, heads):
    """Tell, without haste, whether the parts of one world are like parts of another one by these names."""
    there_kinds, there_operators = other.kinds(), other.operators()
    for kind, builders in one.kinds().items():
        images = [(heads[builder], tuple(kinds[part] for part in takes)) for builder, takes in builders]
        if there_kinds.get(kinds[kind]) != images:
            return False
    for name, (takes, gives, rows) in one.operators().items():
        if heads[name] not in there_operators:
            return False
        takes_there, gives_there, rows_there = there_operators[heads[name]]
        if tuple(kinds[part] for part in takes) != takes_there or kinds[gives] != gives_there or len(rows) != len(rows_there):
            return False
        for (left, right), (left_there, right_there) in zip(rows, rows_there):
            if not same_rows(renamed(left, heads), renamed(right, heads), left_there, right_there):
                return False
    return True


def same_rows(left, right, left_there, right_there):
    """Tell whether two rows are the same, whatever the names of their holes."""
    names = {}

    def same(one, other):
        if one[0] != other[0]:
            return False
        if one[0] == "hole":
            return names.setdefault(one[1], other[1]) == other[1]
        return one[1] == other[1] and len(one[2]) == len(other[2]) and all([same(a, b) for a, b in zip(one[2], other[2])])

    return same(left, left_there) and same(right, right_there) and len(set(names.values())) == len(names)


def by_hand(one, other):
    """The first likeness, by trying one after the other."""
    kinds = list(one.kinds())
    for images in itertools.permutations(other.kinds(), len(kinds)):
        by_kind = dict(zip(kinds, images))
        heads = {}
        for kind in kinds:
            heads.update(zip([b for b, _ in one.kinds()[kind]], [b for b, _ in other.kinds()[by_kind[kind]]]))
        names = list(one.operators())
        for others in itertools.permutations(other.operators(), len(names)):
            found = {**heads, **dict(zip(names, others))}
            if len(heads) == sum(len(builders) for builders in one.kinds().values()) and is_like(one, other, by_kind, found):
                return by_kind, found
    return None


class Likeness(unittest.TestCase):
    def like(self, one, other, kinds, heads):
        found = likeness(one, other)
        self.assertIsInstance(found, tuple)
        self.assertEqual(found, (kinds, heads))
        self.assertTrue(is_like(one, other, kinds, heads))

    def unlike(self, one, other):
        self.assertIsNone(likeness(one, other))

    def same(self, world):
        self.like(world, world, {kind: kind for kind in world.kinds()}, {head: head for head in world.heads()})

    def test_to_itself(self):
        for world in (World(), nats(), numbers(), lists(), full_world()):
            self.same(world)

    def test_an_empty_world_is_like_nothing_of_another_one(self):
        self.like(World(), full_world(), {}, {})
        self.unlike(nats(), World())

    def test_other_names(self):
        other = World().with_kind("num", [("null", ()), ("succ", ("num",))])
        null, succ = of("null"), lambda term: of("succ", term)
        plus = [(of("plus", null, hole("y")), hole("y")), (
            of("plus", succ(hole("x")), hole("y")), succ(of("plus", hole("x"), hole("y"))))]
        other = other.with_operator("plus", ("num", "num"), "num", plus)
        self.like(numbers(), other, {"nat": "num"}, {"zero": "null", "next": "succ", "add": "plus"})
        self.like(other, numbers(), {"num": "nat"}, {"null": "zero", "succ": "next", "plus": "add"})

    def test_names_that_are_exchanged(self):
        one = World().with_kind("a", [("b", ()), ("c", ("a",))]).with_kind("d", [("e", ("a",))])
        other = World().with_kind("d", [("c", ()), ("e", ("d",))]).with_kind("a", [("b", ("d",))])
        self.like(one, other, {"a": "d", "d": "a"}, {"b": "c", "c": "e", "e": "b"})

    def test_more_kinds_and_operators_ahead_between_and_behind(self):
        other = World().with_kind("flag", FLAG).with_operator("flip", ("flag",), "flag", [(of("flip", A), A)])
        other = other.with_kind("nat", NAT).with_operator("one", (), "nat", [(of("one"), after(ZERO))])
        other = other.with_operator("add", ("nat", "nat"), "nat", ADD_ROWS).with_kind("list", LIST)
        other = other.with_operator("drop", ("list",), "nat", [(of("drop", A), ZERO)])
        self.like(numbers(), other, {"nat": "nat"}, {"zero": "zero", "next": "next", "add": "add"})
        self.unlike(other, numbers())

    def test_sayings_do_not_count(self):
        world = numbers().with_saying(Saying("s", {"x": "nat"}, [], hole("x"), hole("x")))
        self.like(world, numbers(), {"nat": "nat"}, {"zero": "zero", "next": "next", "add": "add"})
        self.like(numbers(), world, {"nat": "nat"}, {"zero": "zero", "next": "next", "add": "add"})

    def test_builders(self):
        for other in (
            [NAT[1], NAT[0]], [NAT[0]], NAT + [("more", ())], [("zero", ()), ("next", ("nat", "nat"))],
            [("zero", ()), ("next", ())], [("zero", ("flag",)), ("next", ("nat",))], [("zero", ()), ("next", ("flag",))],
        ):
            world = World().with_kind("flag", FLAG).with_kind("nat", other)
            self.unlike(nats(), world)
            self.unlike(world, World().with_kind("flag", FLAG).with_kind("nat", NAT))

    def test_kinds_that_builders_take(self):
        one = nats().with_kind("flag", FLAG).with_kind("pair", [("both", ("nat", "flag"))])
        for takes in (("flag", "nat"), ("nat", "nat"), ("flag", "flag"), ("nat",), ("nat", "flag", "nat")):
            self.unlike(one, nats().with_kind("flag", FLAG).with_kind("pair", [("both", takes)]))
        # Its own kind is another one than the same kind elsewhere.
        one = nats().with_kind("line", [("nil", ()), ("cons", ("line",))]).with_kind("two", [("tip", ()), ("top", ("line",))])
        other = nats().with_kind("line", [("nil", ()), ("cons", ("nat",))]).with_kind("two", [("tip", ()), ("top", ("nat",))])
        self.unlike(one, other)
        self.unlike(other, one)

    def operators(self, first, second):
        """The worlds with these operators, which are not like one another."""
        base = lists()
        one, other = base.with_operator(*first), base.with_operator(*second)
        self.same(one)
        self.same(other)
        self.unlike(one, other)
        self.unlike(other, one)

    def test_what_operators_take_and_give(self):
        yes = of("yes")
        self.operators(("f", ("nat", "flag"), "nat", [(of("f", A, B), A)]), ("f", ("flag", "nat"), "nat", [(of("f", A, B), B)]))
        self.operators(("f", ("nat", "nat"), "nat", [(of("f", A, B), A)]), ("f", ("nat",), "nat", [(of("f", A), A)]))
        self.operators(("f", ("nat", "nat"), "flag", [(of("f", A, B), yes)]), ("f", ("nat", "list"), "flag", [(of("f", A, B), yes)]))
        self.operators(("f", (), "nat", [(of("f"), ZERO)]), ("f", (), "flag", [(of("f"), yes)]))
        self.operators(("f", (), "flag", [(of("f"), of("no"))]), ("f", (), "flag", [(of("f"), yes)]))

    def test_rows(self):
        fa, f = (lambda term: of("f", term)), ("f", ("nat",), "nat")
        rows = [(fa(ZERO), ZERO), (fa(after(A)), A)]
        self.operators((*f, rows), (*f, list(reversed(rows))))
        self.operators((*f, rows), (*f, [rows[0], (fa(after(A)), after(A))]))
        self.operators((*f, rows), (*f, [rows[0], (fa(after(A)), fa(A))]))
        self.operators((*f, rows), (*f, [(fa(A), ZERO)]))
        self.operators((*f, rows), (*f, [(fa(ZERO), after(ZERO)), rows[1]]))
        self.operators(("f", ("nat", "nat"), "nat", [(of("f", A, B), A)]), ("f", ("nat", "nat"), "nat", [(of("f", A, B), B)]))
        two = ("f", ("nat", "nat"), "nat")
        self.operators((*two, [(of("f", ZERO, B), B), (of("f", after(A), B), A)]),
                       (*two, [(of("f", B, ZERO), B), (of("f", B, after(A)), A)]))
        self.operators((*two, [(of("f", A, B), add(A, B))]), (*two, [(of("f", A, B), add(B, A))]))
        self.operators((*two, [(of("f", A, B), add(A, B))]), (*two, [(of("f", A, B), add(A, A))]))

    def test_holes_of_rows_that_are_named_otherwise(self):
        one = lists().with_operator("f", ("nat", "list", "flag"), "list", [
            (of("f", A, of("none"), C), of("none")), (of("f", A, of("put", B, hole("d")), C), of("put", A, hole("d"))),
        ])
        other = lists().with_operator("f", ("nat", "list", "flag"), "list", [
            (of("f", C, of("none"), A), of("none")), (of("f", B, of("put", A, C), hole("d")), of("put", B, C)),
        ])
        for first, second in ((one, other), (other, one)):
            self.like(first, second, {kind: kind for kind in one.kinds()}, {head: head for head in one.heads()})
        # The holes are named otherwise, but another one of them is on the right.
        third = lists().with_operator("f", ("nat", "list", "flag"), "list", [
            (of("f", A, of("none"), C), of("none")), (of("f", A, of("put", B, hole("d")), C), of("put", B, hole("d"))),
        ])
        self.unlike(one, third)

    def test_operators_that_go_by_others(self):
        one = constant(nats(), "aa", "bb")
        one = one.with_operator("cc", (), "nat", [(of("cc"), after(of("aa")))])
        other = constant(nats(), "aa", "bb").with_operator("cc", (), "nat", [(of("cc"), after(of("bb")))])
        self.like(one, other, {"nat": "nat"}, {"zero": "zero", "next": "next", "aa": "bb", "bb": "aa", "cc": "cc"})
        self.unlike(one, constant(nats(), "aa", "bb", "cc"))
        self.unlike(one.with_operator("dd", (), "nat", [(of("dd"), after(of("bb")))]),
                    other.with_operator("dd", (), "nat", [(of("dd"), after(of("bb")))]))

    def test_builders_and_operators_are_not_like_one_another(self):
        one = World().with_kind("flag", [("yes", ())])
        self.unlike(constant(one, "no", kind="flag", worth=of("yes")), World().with_kind("flag", FLAG))
        self.unlike(World().with_kind("flag", FLAG), constant(one, "no", kind="flag", worth=of("yes")))


class First(unittest.TestCase):
    def test_the_first_kind_is_mapped_to_the_earliest_one(self):
        one = World().with_kind("a", [("aa", ())]).with_kind("b", [("bb", ())])
        other = World().with_kind("c", [("cc", ())]).with_kind("d", [("dd", ())]).with_kind("e", [("ee", ())])
        self.assertEqual(likeness(one, other), ({"a": "c", "b": "d"}, {"aa": "cc", "bb": "dd"}))
        self.assertIsNone(likeness(other, one))

    def test_a_later_kind_decides_where_the_earliest_one_is_not_possible(self):
        one = World().with_kind("a", [("aa", ())]).with_kind("b", [("bb", ("a",))])
        other = World().with_kind("c", [("cc", ())]).with_kind("d", [("dd", ())]).with_kind("e", [("ee", ("d",))])
        self.assertEqual(likeness(one, other), ({"a": "d", "b": "e"}, {"aa": "dd", "bb": "ee"}))

    def test_an_operator_decides_where_no_kind_does(self):
        one = World().with_kind("a", [("aa", ())]).with_kind("b", [("bb", ())])
        one = constant(one, "cc", kind="a", worth=of("aa"))
        other = World().with_kind("d", [("dd", ())]).with_kind("e", [("ee", ())])
        other = constant(other, "ff", kind="e", worth=of("ee"))
        self.assertEqual(likeness(one, other), ({"a": "e", "b": "d"}, {"aa": "ee", "bb": "dd", "cc": "ff"}))

    def test_operators_are_mapped_to_the_earliest_ones(self):
        one, other = constant(nats(), "aa", "bb"), constant(nats(), "cc", "dd", "ee")
        found = likeness(one, other)
        self.assertEqual(found[1], {"zero": "zero", "next": "next", "aa": "cc", "bb": "dd"})
        self.assertEqual(likeness(other.with_kind("flag", FLAG), other), None)
        self.assertIsNone(likeness(other, one))

    def test_the_kinds_come_first(self):
        # The operators alone could be mapped to the earlier ones if the kinds were mapped otherwise.
        one = World().with_kind("a", [("aa", ())]).with_kind("b", [("bb", ())])
        one = constant(one, "cc", kind="b", worth=of("bb"))
        other = World().with_kind("d", [("dd", ())]).with_kind("e", [("ee", ())])
        other = constant(other, "ff", kind="d", worth=of("dd"))
        other = constant(other, "gg", kind="e", worth=of("ee"))
        self.assertEqual(likeness(one, other), ({"a": "d", "b": "e"}, {"aa": "dd", "bb": "ee", "cc": "gg"}))

    def test_many_that_are_alike(self):
        names = [first + second for first in "abcd" for second in "abcdefghi"]
        one, other = constant(nats(), *names), constant(nats(), *names[:35])
        self.assertEqual(likeness(one, one)[1], {name: name for name in ["zero", "next", *names]})
        self.assertEqual(len(likeness(other, one)[1]), 37)
        self.assertIsNone(likeness(one, other))

    def test_the_last_of_many_that_are_alike_is_not_free(self):
        names = [first + second for first in "abc" for second in "abcdef"]
        one = constant(nats(), *names).with_operator("user", (), "nat", [(of("user"), after(of(names[-1])))])
        other = constant(nats(), *names).with_operator("user", (), "nat", [(of("user"), after(of(names[0])))])
        found = likeness(one, other)[1]
        self.assertEqual([found[name] for name in names], names[1:] + names[:1])
        # Two of them are used in one world, and one of them twice in the other one.
        one = one.with_operator("more", (), "nat", [(of("more"), after(of(names[-2])))])
        other = other.with_operator("more", (), "nat", [(of("more"), after(of(names[0])))])
        self.assertIsNone(likeness(one, other))
        self.assertIsNone(likeness(other, one))

    def rings(self, *sizes):
        """The world with rings of so many constants, each of which is used beside the next one."""
        world = numbers()
        names = [["c" + letter + other for other in "abcdef"[:size]] for letter, size in zip("abc", sizes)]
        for ring in names:
            world = constant(world, *ring)
        for ring in names:
            for name, following in zip(ring, ring[1:] + ring[:1]):
                edge = "e" + name[1:]
                world = world.with_operator(edge, (), "nat", [(of(edge), add(of(name), of(following)))])
        return world

    def test_where_each_step_seems_possible(self):
        found = likeness(self.rings(3), self.rings(6, 3))[1]
        self.assertEqual([found["ca" + letter] for letter in "abc"], ["cba", "cbb", "cbc"])
        self.assertEqual([found["ea" + letter] for letter in "abc"], ["eba", "ebb", "ebc"])
        self.assertIsNone(likeness(self.rings(3), self.rings(6, 4)))
        self.assertIsNone(likeness(self.rings(3, 3, 3), self.rings(6, 3)))
        self.assertIsNone(likeness(self.rings(6, 3), self.rings(3, 3, 3)))
        found = likeness(self.rings(3, 6), self.rings(6, 3))[1]
        self.assertEqual([found["c" + name] for name in ("aa", "ab", "ba", "bf")], ["cba", "cbb", "caa", "caf"])

    def test_by_hand(self):
        worlds = []
        for uses in (("aa", "bb"), ("bb", "aa"), ("cc", "aa"), ("aa", "aa"), ("cc", "cc")):
            world = constant(nats().with_kind("flag", FLAG), "aa", "bb", "cc")
            for name, used in zip(("dd", "ee"), uses):
                world = world.with_operator(name, (), "nat", [(of(name), add_one(used))])
            worlds.append(world)
        for pairs in ((("a", "b"), ("b", "c")), (("b", "a"), ("c", "b"))):
            world = World()
            for kind in "abc":
                world = world.with_kind(kind, [("t" + kind, ())])
            for at, (first, second) in enumerate(pairs):
                world = world.with_operator("o" + "xy"[at], (first,), second, [(of("o" + "xy"[at], A), of("t" + second))])
            worlds.append(world)
        for one in worlds:
            for other in worlds:
                self.assertEqual(likeness(one, other), by_hand(one, other))

    def test_each_answer_is_new(self):
        kinds, heads = likeness(numbers(), numbers())
        kinds.clear()
        heads.clear()
        self.assertEqual(likeness(numbers(), numbers())[0], {"nat": "nat"})


def add_one(name):
    return after(of(name))


if __name__ == "__main__":
    unittest.main()

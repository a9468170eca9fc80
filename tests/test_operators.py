"""Operators and their rows: [5]."""

import unittest

from showhouse.errors import BadOperator
from showhouse.sayings import Saying
from showhouse.worlds import World
from tests.samples import (
    A, ADD_ROWS, B, C, NO_NAMES, NO_TERMS, ZERO, hole, lists, numbers, numeral, of,
)
from tests.test_kinds import crowd

TWO = ("nat", "nat")
ONE_MORE = of("next", A)


def next_of(term):
    return of("next", term)


class Accepted(unittest.TestCase):
    def setUp(self):
        self.world = lists()

    def accepted(self, name, takes, gives, rows):
        made = self.world.with_operator(name, takes, gives, rows)
        self.assertEqual(made.operators()[name], (takes, gives, rows))
        self.assertEqual(list(made.operators()), list(self.world.operators()) + [name])
        return made

    def test_addition(self):
        world = numbers()
        self.assertEqual(world.operators(), {"add": (TWO, "nat", ADD_ROWS)})
        self.assertEqual(world.kind_of(of("add", ZERO, ZERO), {}), "nat")

    def test_the_rows_in_either_order(self):
        rows = [(of("sum", next_of(A), B), next_of(of("sum", A, B))), (of("sum", ZERO, B), B)]
        self.accepted("sum", TWO, "nat", rows)
        self.accepted("sum", TWO, "nat", rows[::-1])

    def test_no_arguments(self):
        self.accepted("one", (), "nat", [(of("one"), next_of(ZERO))])

    def test_no_column(self):
        self.accepted("twice", ("nat",), "nat", [(of("twice", A), of("add", A, A))])
        self.accepted("first", ("nat", "list", "flag"), "list", [(of("first", A, B, C), of("put", A, B))])
        self.accepted("drop", TWO, "nat", [(of("drop", A, B), ZERO)])

    def test_a_column_at_each_place(self):
        for at in (0, 1, 2):
            with self.subTest(at=at):
                holes = [hole("x"), hole("y"), hole("z")]
                below = list(holes)
                below[at] = ZERO
                above = list(holes)
                above[at] = next_of(A)
                again = list(holes)
                again[at] = A
                self.accepted("tri", ("nat",) * 3, "nat", [
                    (of("tri", *below), ZERO), (of("tri", *above), next_of(of("tri", *again))),
                ])

    def test_other_arguments_may_change_where_the_operator_calls_itself(self):
        rows = [
            (of("run", ZERO, B), B),
            (of("run", next_of(A), B), of("run", A, of("run", A, next_of(of("add", B, A))))),
        ]
        self.accepted("run", TWO, "nat", rows)

    def test_a_column_without_calls_of_itself(self):
        self.accepted("isnone", ("list",), "flag", [
            (of("isnone", of("none")), of("yes")), (of("isnone", of("put", A, B)), of("no")),
        ])

    def test_several_holes_inside_the_builder(self):
        world = World().with_kind("tree", [("leaf", ()), ("fork", ("tree", "tree"))])
        rows = [
            (of("flip", of("leaf")), of("leaf")),
            (of("flip", of("fork", A, B)), of("fork", of("flip", B), of("flip", A))),
        ]
        self.assertEqual(world.with_operator("flip", ("tree",), "tree", rows).operators()["flip"][2], rows)

    def test_a_kind_of_one_builder(self):
        world = numbers().with_kind("pair", [("pair", TWO)])
        for rows in (
            [(of("left", of("pair", A, B)), A)],
            [(of("left", A), ZERO)],
        ):
            self.assertIn("left", world.with_operator("left", ("pair",), "nat", rows).operators())

    def test_the_same_holes_in_each_row_and_in_other_operators(self):
        rows = [(of("mul", ZERO, B), ZERO), (of("mul", next_of(A), B), of("add", B, of("mul", A, B)))]
        self.accepted("mul", TWO, "nat", rows)

    def test_a_right_term_of_sixty(self):
        self.accepted("big", (), "nat", [(of("big"), numeral(60))])

    def test_a_saying_or_a_kind_may_have_the_name(self):
        self.world = self.world.with_saying(Saying("same", {}, [], ZERO, ZERO))
        self.accepted("same", (), "nat", [(of("same"), ZERO)])
        self.accepted("nat", (), "nat", [(of("nat"), ZERO)])

    def test_the_order_is_that_of_adding(self):
        world = numbers()
        for name in ("z", "m", "q"):
            world = world.with_operator(name, (), "nat", [(of(name), ZERO)])
        self.assertEqual(list(world.operators()), ["add", "z", "m", "q"])

    def test_names_of_one_and_eight_letters(self):
        for name in ("z", "zzzzzzzz"):
            self.accepted(name, (), "nat", [(of(name), ZERO)])


class Refused(unittest.TestCase):
    def setUp(self):
        self.world = lists()

    def refused(self, name, takes, gives, rows, world=None):
        world = world or self.world
        before = (world.kinds(), world.operators(), world.sayings())
        with self.assertRaises(BadOperator):
            world.with_operator(name, takes, gives, rows)
        self.assertEqual((world.kinds(), world.operators(), world.sayings()), before)

    def test_what_is_no_name(self):
        for name in NO_NAMES:
            with self.subTest(name=name):
                self.refused(name, (), "nat", [(("of", name, ()), ZERO)])
                self.refused(name, (), "nat", [(of("one"), ZERO)])

    def test_a_head_that_exists(self):
        for name in ("zero", "add", "put"):
            self.refused(name, (), "nat", [(of(name), ZERO)])

    def test_a_hole_that_exists(self):
        self.refused("a", (), "nat", [(of("a"), ZERO)])
        self.refused("b", (), "nat", [(of("b"), ZERO)])
        world = self.world.with_saying(Saying("same", {"q": "nat", "r": "nat"}, [], hole("q"), hole("q")))
        for name in ("q", "r"):
            self.refused(name, (), "nat", [(of(name), ZERO)], world)
            self.world.with_operator(name, (), "nat", [(of(name), ZERO)])
        # The holes of a row inside its builder count too.
        world = self.world.with_operator("less", ("nat",), "nat", [
            (of("less", ZERO), ZERO), (of("less", next_of(hole("w"))), ZERO),
        ])
        self.refused("w", (), "nat", [(of("w"), ZERO)], world)

    def test_forty_heads(self):
        rows = [(of("full"), ZERO)]
        self.assertEqual(len(crowd(39).with_operator("full", (), "nat", rows).operators()), 39)
        self.refused("full", (), "nat", rows, crowd(40))

    def test_what_it_takes(self):
        rows = [(of("one"), ZERO)]
        for takes in (None, True, 0, "", "nat", [], ["nat"], {}, set(), ("number",), (None,), (True,), (("nat",),),
                      (["nat"],), ("nat", "zero"), ("Nat",)):
            with self.subTest(takes=takes):
                self.refused("one", takes, "nat", rows)
        for takes in (["nat"], ("number",), ("zero",), ("add",), ("one",), (None,), (True,), (["nat"],)):
            with self.subTest(takes=takes):
                self.refused("one", takes, "nat", [(of("one", A), ZERO)])
        self.refused("two", ("nat", "zero"), "nat", [(of("two", A, B), A)])
        self.refused("two", ("number", "nat"), "nat", [(of("two", A, B), B)])
        holes = [hole("ha"), hole("hb"), hole("hc"), hole("hd")]
        self.world.with_operator("many", ("nat",) * 3, "nat", [(of("many", *holes[:3]), ZERO)])
        self.refused("many", ("nat",) * 4, "nat", [(of("many", *holes), ZERO)])

    def test_what_it_gives(self):
        for gives in [name for name in NO_NAMES if name != "nat"] + ["number", "zero", "add"]:
            with self.subTest(gives=gives):
                self.refused("one", (), gives, [(of("one"), ZERO)])
                # A right term without a kind does not make up for it.
                self.refused("one", (), gives, [(of("one"), of("null"))])

    def test_what_is_no_list_of_rows(self):
        row = (of("one"), ZERO)
        for rows in (None, True, 0, "", [], (), (row,), {}, {row: row}, {row}, row):
            with self.subTest(rows=rows):
                self.refused("one", (), "nat", rows)
        for bad in (None, True, 1, "", [of("one"), ZERO], (), (of("one"),), (of("one"), ZERO, ZERO), {1: 2}):
            with self.subTest(bad=bad):
                self.refused("one", (), "nat", [bad])

    def test_sides_that_are_no_terms(self):
        for term in NO_TERMS:
            with self.subTest(term=term):
                self.refused("one", (), "nat", [(term, ZERO)])
                self.refused("one", (), "nat", [(of("one"), term)])
                self.refused("less", ("nat",), "nat", [(of("less", term), ZERO)])
                self.refused("one", (), "nat", [(of("one"), next_of(term))])

    def test_a_right_term_of_sixty_one(self):
        self.refused("big", (), "nat", [(of("big"), numeral(61))])

    def test_a_left_term_of_sixty_one(self):
        self.refused("big", ("nat",), "nat", [(of("big", numeral(60)), ZERO)])

    def test_the_left_term_applies_the_operator_itself(self):
        self.refused("one", (), "nat", [(of("two"), ZERO)])
        self.refused("one", (), "nat", [(ZERO, ZERO)])
        self.refused("one", (), "nat", [(hole("one"), ZERO)])
        self.refused("plus", TWO, "nat", [ADD_ROWS[0], (of("plus", next_of(A), B), B)])
        self.refused("plus", TWO, "nat", ADD_ROWS)

    def test_the_left_term_has_as_many_arguments(self):
        self.refused("one", (), "nat", [(of("one", A), ZERO)])
        self.refused("less", ("nat",), "nat", [(of("less"), ZERO)])
        self.refused("less", ("nat",), "nat", [(of("less", A, B), ZERO)])
        self.refused("plus", TWO, "nat", [(of("plus", ZERO), ZERO), (of("plus", next_of(A), B), B)])

    def test_one_column_only(self):
        self.refused("both", TWO, "nat", [
            (of("both", ZERO, ZERO), ZERO), (of("both", next_of(A), next_of(B)), ZERO),
        ])
        self.refused("both", ("nat", "flag"), "nat", [(of("both", ZERO, of("yes")), ZERO)])

    def test_the_same_column_in_all_rows(self):
        self.refused("both", TWO, "nat", [(of("both", ZERO, B), B), (of("both", A, next_of(B)), A)])
        self.refused("both", TWO, "nat", [(of("both", A, B), B), (of("both", next_of(A), B), A)])
        self.refused("both", TWO, "nat", [(of("both", ZERO, B), B), (of("both", A, B), A)])
        self.refused("both", TWO, "nat", [(of("both", ZERO, B), B), (of("both", hole("next"), ZERO), ZERO)])

    def test_the_column_has_a_builder_of_its_kind(self):
        rows = [(of("less", of("yes")), ZERO), (of("less", of("no")), ZERO)]
        self.refused("less", ("nat",), "nat", rows)
        self.refused("less", ("nat",), "nat", [(of("less", of("add", A, B)), ZERO)])
        self.refused("less", ("nat",), "nat", [(of("less", ZERO), ZERO), (of("less", of("add", A, B)), ZERO)])
        self.refused("less", ("nat",), "nat", [(of("less", ZERO), ZERO), (of("less", of("null", A)), ZERO)])
        self.refused("less", ("nat",), "nat", [(of("less", ZERO), ZERO), (of("less", of("less", A)), ZERO)])

    def test_the_builder_is_applied_to_holes(self):
        for inner in (
            next_of(ZERO), next_of(next_of(A)), next_of(of("null")), next_of(of("null", A)), of("next"),
            of("next", A, B),
        ):
            with self.subTest(inner=inner):
                self.refused("less", ("nat",), "nat", [(of("less", ZERO), ZERO), (of("less", inner), ZERO)])
        self.refused("less", ("nat",), "nat", [(of("less", of("zero", A)), ZERO), (of("less", ONE_MORE), ZERO)])

    def test_one_row_for_each_builder(self):
        below = (of("less", ZERO), ZERO)
        above = (of("less", ONE_MORE), A)
        self.world.with_operator("less", ("nat",), "nat", [below, above])
        for rows in ([below], [above], [below, below], [below, above, above], [below, above, below]):
            with self.subTest(rows=rows):
                self.refused("less", ("nat",), "nat", rows)

    def test_one_row_with_only_holes(self):
        row = (of("less", A), ZERO)
        self.refused("less", ("nat",), "nat", [row, row])
        self.refused("less", ("nat",), "nat", [row, (of("less", B), ZERO)])
        self.refused("one", (), "nat", [(of("one"), ZERO), (of("one"), ZERO)])

    def test_the_holes_of_a_left_term_are_distinct(self):
        self.refused("drop", TWO, "nat", [(of("drop", A, A), A)])
        self.refused("drop", TWO, "nat", [(of("drop", ZERO, B), B), (of("drop", next_of(B), B), B)])
        world = World().with_kind("tree", [("leaf", ()), ("fork", ("tree", "tree"))])
        self.refused("flip", ("tree",), "tree", [
            (of("flip", of("leaf")), of("leaf")), (of("flip", of("fork", A, A)), A),
        ], world)

    def test_the_holes_are_no_heads(self):
        for name in ("zero", "put", "add"):
            self.refused("drop", ("nat",), "nat", [(of("drop", hole(name)), ZERO)])
            self.refused("drop", ("nat",), "nat", [
                (of("drop", ZERO), ZERO), (of("drop", next_of(hole(name))), ZERO),
            ])

    def test_the_holes_are_not_the_operator_itself(self):
        self.refused("drop", ("nat",), "nat", [(of("drop", hole("drop")), ZERO)])
        self.refused("drop", ("nat",), "nat", [
            (of("drop", ZERO), ZERO), (of("drop", next_of(hole("drop"))), ZERO),
        ])

    def test_the_kind_of_the_right_term(self):
        self.refused("one", (), "nat", [(of("one"), of("none"))])
        self.refused("one", (), "nat", [(of("one"), of("next"))])
        self.refused("pick", ("nat", "list"), "nat", [(of("pick", A, B), B)])
        self.refused("less", ("nat",), "nat", [(of("less", ZERO), of("yes")), (of("less", ONE_MORE), A)])
        self.refused("less", ("nat",), "nat", [(of("less", ZERO), ZERO), (of("less", ONE_MORE), of("yes"))])
        # The holes inside the builder have the kinds of their places too.
        self.refused("head", ("list",), "nat", [(of("head", of("none")), ZERO), (of("head", of("put", A, B)), B)])
        self.world.with_operator("head", ("list",), "nat", [
            (of("head", of("none")), ZERO), (of("head", of("put", A, B)), A),
        ])

    def test_no_other_holes_in_the_right_term(self):
        self.refused("one", (), "nat", [(of("one"), A)])
        self.refused("less", ("nat",), "nat", [(of("less", A), B)])
        self.refused("less", ("nat",), "nat", [(of("less", ZERO), A), (of("less", ONE_MORE), A)])

    def test_no_later_operators_in_the_right_term(self):
        self.refused("one", (), "nat", [(of("one"), of("two"))])
        self.refused("one", (), "nat", [(of("one"), of("nat"))])

    def test_no_call_of_itself_without_a_column(self):
        self.refused("one", (), "nat", [(of("one"), of("one"))])
        self.refused("one", (), "nat", [(of("one"), next_of(of("one")))])
        self.refused("loop", ("nat",), "nat", [(of("loop", A), of("loop", A))])

    def test_calls_of_itself_on_a_part_of_the_builder_only(self):
        below = (of("run", ZERO, B), B)
        for right in (
            of("run", next_of(A), B), of("run", B, A), of("run", ZERO, B), of("run", of("add", A, A), B),
            next_of(of("run", B, B)), of("run", A, of("run", B, B)), of("run", of("run", A, B), B),
            of("add", of("run", A, B), of("run", B, A)),
        ):
            with self.subTest(right=right):
                self.refused("run", TWO, "nat", [below, (of("run", next_of(A), B), right)])
        self.refused("run", TWO, "nat", [
            (of("run", ZERO, B), of("run", B, B)), (of("run", next_of(A), B), of("run", A, B)),
        ])

    def test_the_argument_at_the_column_counts_not_another(self):
        rows = [(of("run", B, ZERO), B), (of("run", B, next_of(A)), of("run", A, B))]
        self.refused("run", TWO, "nat", rows)
        rows[1] = (of("run", B, next_of(A)), of("run", B, A))
        self.world.with_operator("run", TWO, "nat", rows)

    def test_the_part_has_the_kind_of_the_column(self):
        rows = [(of("count", of("none")), ZERO), (of("count", of("put", A, B)), next_of(of("count", A)))]
        self.refused("count", ("list",), "nat", rows)
        rows[1] = (of("count", of("put", A, B)), next_of(of("count", B)))
        self.world.with_operator("count", ("list",), "nat", rows)


class Growing(unittest.TestCase):
    def test_the_elder_world_stays_as_it_was(self):
        elder = lists()
        younger = elder.with_operator("one", (), "nat", [(of("one"), next_of(ZERO))])
        self.assertEqual(list(elder.operators()), ["add"])
        self.assertIsNone(elder.kind_of(of("one"), {}))
        self.assertEqual(younger.kind_of(of("one"), {}), "nat")
        # A hole of a row of the younger world bars no head in the elder one.
        younger = elder.with_operator("less", ("nat",), "nat", [(of("less", hole("w")), ZERO)])
        self.assertEqual(list(younger.operators()), ["add", "less"])
        self.assertEqual(list(elder.with_operator("w", (), "nat", [(of("w"), ZERO)]).operators()), ["add", "w"])

    def test_what_was_handed_in_is_neither_modified_nor_kept(self):
        rows = [(of("one"), ZERO)]
        world = numbers().with_operator("one", (), "nat", rows)
        self.assertEqual(rows, [(of("one"), ZERO)])
        rows[0] = (of("one"), next_of(ZERO))
        rows.append(rows[0])
        self.assertEqual(world.operators()["one"], ((), "nat", [(of("one"), ZERO)]))

    def test_what_was_returned_is_new(self):
        world = numbers()
        first = world.operators()
        first["add"][2].pop()
        first["other"] = ((), "nat", [])
        self.assertEqual(world.operators(), {"add": (TWO, "nat", ADD_ROWS)})
        self.assertIsNot(world.operators()["add"][2], world.operators()["add"][2])


if __name__ == "__main__":
    unittest.main()

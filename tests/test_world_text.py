"""The text of whole worlds: [12]."""

import unittest

from showhouse.errors import BadText
from showhouse.sayings import Saying
from showhouse.wording import read_world, world_text
from showhouse.worlds import World
from tests.judging import full_world
from tests.samples import A, B, ADD_ROWS, FLAG, LIST, NAT, ZERO, hole, lists, numbers, numeral, of, swap
from tests.test_reckoned import busy_world
from tests.test_wording import NO_STRINGS, all_ways_to_double_a_blank

NUMBERS = [
    "kind nat = zero | next nat",
    "make add nat nat = nat",
    "  add zero b = b",
    "  add (next a) b = next (add a b)",
]
MIXED = NUMBERS + [
    "say swap a:nat b:nat : add a b = add b a",
    "kind list = none | put nat list",
    "make one = nat",
    "  one = next zero",
    "say cut b:nat a:nat : next a = next b -> a = b",
    "make len list = nat",
    "  len (put x l) = next (len l)",
    "  len none = zero",
    "kind flag = yes | no",
    "make first nat nat flag = nat",
    "  first a b c = a",
]


def text_of(lines):
    return "".join([line + "\n" for line in lines])


def mixed_world():
    world = World().with_kind("nat", NAT).with_operator("add", ("nat", "nat"), "nat", ADD_ROWS).with_saying(swap())
    world = world.with_kind("list", LIST).with_operator("one", (), "nat", [(of("one"), of("next", ZERO))])
    given = (of("next", A), of("next", B))
    world = world.with_saying(Saying("cut", {"b": "nat", "a": "nat"}, [given], A, B))
    x, rest = hole("x"), hole("l")
    world = world.with_operator("len", ("list",), "nat", [
        (of("len", of("put", x, rest)), of("next", of("len", rest))), (of("len", of("none")), ZERO),
    ])
    world = world.with_kind("flag", FLAG)
    return world.with_operator("first", ("nat", "nat", "flag"), "nat", [(of("first", A, B, hole("c")), A)])


class Written(unittest.TestCase):
    def test_no_parts(self):
        self.assertEqual(world_text(World()), "")

    def test_one_of_each_sort(self):
        self.assertEqual(world_text(numbers()), text_of(NUMBERS))
        self.assertEqual(world_text(numbers().with_saying(swap())), text_of(MIXED[:5]))

    def test_in_the_order_in_which_the_parts_were_added(self):
        self.assertEqual(world_text(mixed_world()), text_of(MIXED))
        one = World().with_kind("nat", NAT).with_kind("flag", FLAG).with_saying(Saying("s", {}, [], ZERO, ZERO))
        two = World().with_kind("nat", NAT).with_saying(Saying("s", {}, [], ZERO, ZERO)).with_kind("flag", FLAG)
        lines = ["kind nat = zero | next nat", "kind flag = yes | no", "say s : zero = zero"]
        self.assertEqual(world_text(one), text_of(lines))
        self.assertEqual(world_text(two), text_of([lines[0], lines[2], lines[1]]))

    def test_parts_of_one_name(self):
        world = World().with_kind("a", [("b", ())]).with_operator("a", (), "a", [(of("a"), of("b"))])
        world = world.with_saying(Saying("a", {}, [], of("a"), of("b"))).with_saying(Saying("b", {}, [], of("a"), of("a")))
        text = text_of(["kind a = b", "make a = a", "  a = b", "say a : a = b", "say b : a = a"])
        self.assertEqual(world_text(world), text)
        self.assertEqual(world_text(read_world(text)), text)

    def test_the_elder_world_stays_as_it_was(self):
        world = numbers()
        world.with_saying(swap()).with_kind("list", LIST)
        self.assertEqual(world_text(world), text_of(NUMBERS))


class ReadAgain(unittest.TestCase):
    def check(self, world):
        text = world_text(world)
        found = read_world(text)
        self.assertEqual(found, world)
        self.assertEqual(found.kinds(), world.kinds())
        self.assertEqual(found.operators(), world.operators())
        self.assertEqual(found.sayings(), world.sayings())
        self.assertEqual(world_text(found), text)

    def test_worlds(self):
        for world in (World(), numbers(), lists(), full_world(), busy_world(), mixed_world()):
            self.check(world)

    def test_kinds_with_one_to_four_builders_that_take_none_to_three(self):
        world = World().with_kind("a", [("aa", ())])
        world = world.with_kind("b", [("ba", ("a", "b", "a")), ("bb", ("a", "a")), ("bc", ("b",)), ("bd", ())])
        self.assertEqual(world_text(world), "kind a = aa\nkind b = ba a b a | bb a a | bc b | bd\n")
        self.check(world)

    def test_words_of_the_form_as_names(self):
        text = text_of([
            "kind kind = make | say kind | kind kind kind | of",
            "make with kind kind = kind",
            "  with make at = at",
            "  with (say hole) at = with hole at",
            "  with of at = of",
            "  with (kind hole row) at = kind (with hole at) row",
            "say say hole:kind at:kind row:kind : with hole at = row -> hole = at",
            "kind make = back | on make",
            "say with : with of of = of -> back = on back",
        ])
        world = read_world(text)
        self.assertEqual(list(world.kinds()), ["kind", "make"])
        self.assertEqual(world.operators()["with"][2][2], (of("with", of("of"), hole("at")), of("of")))
        self.assertEqual(list(world.sayings()["say"].holes()), ["hole", "at", "row"])
        self.assertEqual(world_text(world), text)
        self.check(world)

    def test_terms_of_sixty(self):
        most = numeral(60)
        world = numbers().with_operator("most", (), "nat", [(of("most"), most)])
        world = world.with_saying(Saying("many", {}, [(most, most)], most, most))
        self.check(world)

    def test_each_world_is_new(self):
        text = text_of(MIXED)
        first = read_world(text)
        first.kinds()["nat"].append(("more", ()))
        first.operators().clear()
        self.assertEqual(read_world(text), mixed_world())
        self.assertIsNot(read_world(text), first)
        self.assertEqual(list(read_world(text).operators()["len"][2]), mixed_world().operators()["len"][2])


class Refused(unittest.TestCase):
    def refused(self, text, row):
        with self.subTest(text=text), self.assertRaises(BadText) as caught:
            read_world(text)
        self.assertEqual(caught.exception.row, row)

    def each_line(self, lines, row=None):
        """None of these lines can stand for the next line after the numbers, whatever follows."""
        for line in lines:
            for behind in ([], ["kind flag = yes | no"], ["what is no line"]):
                self.refused(text_of(NUMBERS + [line] + behind), 4)

    def test_what_is_no_string(self):
        for text in NO_STRINGS + [World(), text_of(NUMBERS).encode()]:
            self.refused(text, 0)

    def test_blanks_in_each_line(self):
        for row, line in enumerate(MIXED):
            start = len(line) - len(line.lstrip())
            for other in [line[:start] + part for part in all_ways_to_double_a_blank(line[start:])] + [line + " ", line + "  "]:
                self.refused(text_of(MIXED[:row] + [other] + MIXED[row + 1:]), row)

    def test_indents(self):
        for row, line in enumerate(MIXED):
            for more in (" ", "   ") + (() if line.startswith(" ") else ("  ",)):
                # A line that is indented like a row is taken for one of the operator above it.
                self.refused(text_of(MIXED[:row] + [more + line] + MIXED[row + 1:]), row)
        for row, line in enumerate(MIXED):
            if line.startswith("  "):
                first = max([at for at in range(row) if MIXED[at].startswith("make")])
                for other in (line[1:], line[2:]):
                    # The operator ends ahead of this line, and lacks it.
                    self.refused(text_of(MIXED[:row] + [other] + MIXED[row + 1:]), first)

    def test_empty_lines(self):
        self.refused("\n", 0)
        for row in range(len(MIXED) + 1):
            first = max([at for at in range(row) if MIXED[at].startswith("make")] + [0])
            inside = row < len(MIXED) and MIXED[row].startswith("  ")
            self.refused(text_of(MIXED[:row] + [""] + MIXED[row:]), first if inside else row)

    def test_kinds(self):
        self.each_line([
            "kind", "kind ", "kind list", "kind list =", "kind list = ", "kind = none", "kind  = none", "list = none",
            "kind list none", "kind list =none", "kind list= none", "kind list=none", "kindlist = none", "Kind list = none",
            "kind list = none |", "kind list = none | ", "kind list = | none", "kind list = none || one",
            "kind list = none| one", "kind list = none |one", "kind list = none|one", "kind list = none | | one",
            "kind list = none = one", "kind list = none, one", "kind list more = none", "kind List = none",
            "kind abcdefghi = none", "kind list = None", "kind list = abcdefghi", "kind list = put Nat",
            "kind list = (put nat list) | none", "kind list = none | put (nat) list", "kind list : none", "kind list = none;",
        ])

    def test_kinds_that_the_world_rejects(self):
        self.each_line([
            "kind nat = none", "kind list = zero", "kind list = add", "kind list = none | none", "kind list = put list",
            "kind list = none | put tree", "kind list = a", "kind list = none | b nat",
            "kind list = p | q | r | s | t", "kind list = none | put nat nat nat nat",
        ])

    def test_sayings(self):
        self.each_line([
            "say", "say same", "say same : a", "say same: zero = zero", "say same a:nat b:nat : a = b ->", "same : zero = zero",
            "say same a:nat a:nat : a = a", "say same : zero = (zero)", "say same : (zero) = zero", "say same a nat : a = a",
            "say same : add" + " zero" * 60 + " = zero",
        ])

    def test_sayings_that_the_world_rejects(self):
        self.each_line([
            "say same : a = a", "say same a:list : a = a", "say same zero:nat : zero = zero", "say same : next = next",
            "say same : zero a = zero", "say same a:nat : a = add a", "say same a:nat : b = b -> a = a",
        ])
        self.refused(text_of(MIXED + [MIXED[4]]), len(MIXED))
        self.refused(text_of(MIXED + ["say swap : zero = zero"]), len(MIXED))
        self.refused(text_of(MIXED + ["say same : none = zero"]), len(MIXED))

    def test_first_lines_of_operators(self):
        row = "  twice a = add a a"
        for line in (
            "make", "make ", "make twice", "make twice nat", "make twice nat =", "make twice nat = ", "make = nat",
            "make twice nat nat", "make twice nat= nat", "make twice nat =nat", "twice nat = nat", "make twice nat = nat nat",
            "make twice nat = nat = nat", "make twice = nat = nat", "make Twice nat = nat", "make abcdefghi nat = nat",
            "make twice Nat = nat", "make twice nat = Nat", "make twice (nat) = nat", "make twice nat : nat",
            "Make twice nat = nat", "maketwice nat = nat", "make  = nat",
        ):
            # The first line comes ahead of rows that are no rows.
            for rows in ([], [row], ["  what is no row"]):
                self.refused(text_of(NUMBERS + [line] + rows), 4)

    def test_rows_of_operators(self):
        for line in (
            "  twice a", "  twice a =", "  twice a = ", "  = add a a", "   = add a a", "  ", "  twice a = add a a = a", "  twice (a) = a",
            "  twice a = (add a a)", "  twice a = add a (a)", "  twice a= add a a", "  twice a =add a a",
            "  twice a = add a a,", "  twice A = add a a", "  twice a = b a", "  a a = a", "  twice a -> a = a",
            "  twice a : add a a", "  twice a = next" + " zero" * 60, "  twice" + " zero" * 60 + " = a", "  twice abcdefghi = a",
        ):
            for behind in ([], ["  twice a = a"], ["kind flag = yes | no"], ["what is no line"]):
                self.refused(text_of(NUMBERS + ["make twice nat = nat", line] + behind), 5)
                # It comes ahead of what the world has against the first line.
                self.refused(text_of(NUMBERS + ["make add list = nat", line] + behind), 5)
                self.refused(text_of(NUMBERS + ["make twice nat = nat", "  twice b = c", line] + behind), 6)

    def test_operators_that_the_world_rejects(self):
        for lines in (
            ["make twice nat = nat"],
            ["make twice nat = nat", "  twice a = b"],
            ["make twice nat = nat", "  twice b = b", "  twice b = b"],
            ["make twice nat = nat", "  twice zero = zero"],
            ["make twice nat = nat", "  next a = a"],
            ["make twice nat = nat", "  a = a"],
            ["make twice nat = nat", "  twice (next a) = twice (next a)", "  twice zero = zero"],
            ["make twice nat = nat", "  twice a = twice a"],
            ["make twice nat = nat", "  twice twice = zero"],
            ["make twice list = nat", "  twice a = zero"],
            ["make twice nat = list", "  twice a = a"],
            ["make add nat = nat", "  add a = a"],
            ["make zero nat = nat", "  zero a = a"],
            ["make a nat = nat", "  a c = c"],
            ["make twice nat nat nat nat = nat", "  twice a b c d = a"],
            ["make twice nat = nat", "  twice a = a", "  twice zero = zero", "  twice (next a) = a"],
        ):
            for behind in ([], ["kind flag = yes | no"], ["what is no line"], [" "], [""]):
                self.refused(text_of(NUMBERS + lines + behind), 4)

    def test_the_operator_itself_is_a_head_in_its_rows(self):
        world = read_world(text_of(["kind nat = zero | next nat", "make b = nat", "  b = zero"]))
        self.assertEqual(world.operators(), {"b": ((), "nat", [(of("b"), ZERO)])})

    def test_too_many_parts(self):
        kinds = [f"kind {name} = {name}" for name in "abcdef"]
        self.assertEqual(list(read_world(text_of(kinds)).kinds()), list("abcdef"))
        self.refused(text_of(kinds + ["kind g = g"]), 6)
        sayings = [f"say {one}{two} : b = b" for one in "abcd" for two in "abcdefghij"]
        self.assertEqual(len(read_world(text_of(kinds + sayings)).sayings()), 40)
        self.refused(text_of(kinds + sayings + ["say more : b = b"]), 46)
        operators = [line for name in "abcdefghijklmnopqrstuvwxyzabcdefgh" for line in (name, name)]
        lines = []
        for at, name in enumerate(operators[::2]):
            lines += [f"make o{name}{'x' * (at // 26)} = a", f"  o{name}{'x' * (at // 26)} = a"]
        self.assertEqual(len(read_world(text_of(kinds + lines)).operators()), 34)
        self.refused(text_of(kinds + lines + ["make more = a", "  more = a"]), 6 + 68)

    def test_rows_without_an_operator(self):
        self.refused("  add zero b = b\n", 0)
        self.refused(text_of(["kind nat = zero | next nat", "  add zero b = b"]), 1)
        self.refused(text_of(NUMBERS + ["say same : zero = zero", "  add zero b = b"]), 5)

    def test_sorts_that_are_none(self):
        self.each_line(["sort list = none", "chain", "a = b", "kinds list = none", "makes one = nat", "# kind", "through a"])

    def test_characters_behind_the_last_line_feed(self):
        for behind in ("x", " ", "kind flag = yes | no", "  add zero b = b", "what is no line"):
            self.refused(text_of(NUMBERS) + behind, 4)
            self.refused(text_of(MIXED) + behind, len(MIXED))
            self.refused(behind, 0)
        # All lines come ahead of it, and so does an operator that lacks a row.
        self.refused(text_of(NUMBERS + ["what is no line", "kind flag = yes | no"]) + "x", 4)
        self.refused(text_of(NUMBERS[:3]) + NUMBERS[3], 1)
        self.refused(text_of(NUMBERS[:1]) + NUMBERS[1], 1)

    def test_the_empty_text(self):
        self.assertEqual(read_world(""), World())


if __name__ == "__main__":
    unittest.main()

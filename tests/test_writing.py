"""The text of showings: [13]."""

import unittest

from showhouse.errors import BadShowing, BadText
from showhouse.judge import judged
from showhouse.sayings import Saying
from showhouse.worlds import World
from showhouse.writing import read_showing, showing_text
from tests.judging import add, add_zero, after, by_number, full_world, given, held, never, row, saying
from tests.samples import A, B, C, NO_NUMBERS, ZERO, chain, hole, numbers, numeral, of, step
from tests.test_showings import NO_SHOWINGS
from tests.test_wording import NO_STRINGS

NEXT_B = after(B)

SORTS = [
    (chain(), "chain\n"),
    (chain(row("add", 0, (0, 1), b=ZERO)), "chain\n  on row add 0 at 0.1 with b = zero\n"),
    (chain(saying("same", (), "back", a=B, b=after(A))), "chain\n  back saying same at - with a = b, b = next a\n"),
    (chain(held(0)), "chain\n  on held 0 at -\n"),
    (chain(given(1, (0,))), "chain\n  on given 1 at 0\n"),
    (chain(given(999, (0, 999, 12), "back")), "chain\n  back given 999 at 0.999.12\n"),
    (chain(held(0), held(1)), "chain\n  on held 0 at -\n  on held 1 at -\n"),
    (chain(step(("held", 2), "on", (), {"c": A, "a": add(A, NEXT_B), "b": numeral(3)})),
     "chain\n  on held 2 at - with a = add a (next b), b = next (next zero), c = a\n"),
    (never(1), "never 1\n"),
    (never(999), "never 999\n"),
    (("peel", 0, never(1)), "peel 0\n  never 1\n"),
    (("so", A, NEXT_B, chain(), never(0)), "so a = next b\n  chain\n  never 0\n"),
    (("through", "a", {}), "through a\n"),
    (("split", "a", {}), "split a\n"),
    (("through", "a", {"zero": ((), chain())}), "through a\n  case zero\n    chain\n"),
    (("split", "a", {"put": (("b", "c"), never(0)), "none": ((), chain())}),
     "split a\n  case put b c\n    never 0\n  case none\n    chain\n"),
]

DEEP = ("through", "a", {
    "next": (("d", "e"), chain(
        saying("cut", (0,), "on", [chain(given(0)), never(1)], b=B, a=A),
        held(0, (), "back"),
        saying("cut", (), "on", [("so", A, B, ("peel", 3, chain()), ("split", "b", {}))]),
    )),
    "zero": ((), ("so", A, ZERO, never(2), ("through", "b", {"no": ((), chain(given(1)))}))),
})
DEEP_LINES = [
    "through a",
    "  case next d e",
    "    chain",
    "      on saying cut at 0 with a = a, b = b",
    "        chain",
    "          on given 0 at -",
    "        never 1",
    "      back held 0 at -",
    "      on saying cut at -",
    "        so a = b",
    "          peel 3",
    "            chain",
    "          split b",
    "  case zero",
    "    so a = zero",
    "      never 2",
    "      through b",
    "        case no",
    "          chain",
    "            on given 1 at -",
]


def text_of(lines):
    return "".join([line + "\n" for line in lines])


def nested(depth, inmost=("chain", ())):
    for _ in range(depth - 1):
        inmost = ("peel", 0, inmost)
    return inmost


def nested_lines(depth, inmost="chain"):
    return ["  " * at + "peel 0" for at in range(depth - 1)] + ["  " * (depth - 1) + inmost]


class Written(unittest.TestCase):
    def test_each_showing_and_each_sort_of_step(self):
        for showing, text in SORTS:
            self.assertEqual(showing_text(showing), text)

    def test_one_within_another(self):
        self.assertEqual(showing_text(DEEP), text_of(DEEP_LINES))

    def test_an_induction(self):
        self.assertEqual(showing_text(add_zero(b=B)), text_of([
            "through a",
            "  case zero",
            "    chain",
            "      on row add 0 at - with b = zero",
            "  case next c",
            "    chain",
            "      on row add 1 at - with a = c, b = zero",
            "      on held 0 at 0 with b = b",
        ]))

    def test_cases_in_the_order_of_the_dict(self):
        one, two = ((), chain()), (("d",), never(0))
        for cases, lines in (
            ({"zero": one, "next": two}, ["  case zero", "    chain", "  case next d", "    never 0"]),
            ({"next": two, "zero": one}, ["  case next d", "    never 0", "  case zero", "    chain"]),
        ):
            self.assertEqual(showing_text(("split", "a", cases)), text_of(["split a"] + lines))

    def test_bindings_are_sorted_by_name(self):
        names = ["ab", "b", "a", "aa", "z", "ba"]
        text = showing_text(chain(step(("held", 0), "on", (), {name: hole(name) for name in names})))
        line = "  on held 0 at - with a = a, aa = aa, ab = ab, b = b, ba = ba, z = z"
        self.assertEqual(text, text_of(["chain", line]))

    def test_what_is_no_showing(self):
        for showing in NO_SHOWINGS:
            with self.subTest(showing=showing), self.assertRaises(BadShowing):
                showing_text(showing)
        for number in NO_NUMBERS:
            with self.subTest(number=number), self.assertRaises(BadShowing):
                showing_text(never(number))

    def test_the_argument_is_not_modified(self):
        cases = {"next": (("d",), chain(step(("held", 0), "on", (), {"b": B, "a": A}))), "zero": ((), chain())}
        showing_text(("through", "a", cases))
        self.assertEqual(list(cases), ["next", "zero"])
        self.assertEqual(list(cases["next"][1][1][0][3]), ["b", "a"])


class ReadAgain(unittest.TestCase):
    def setUp(self):
        self.world = full_world()

    def check(self, showing):
        text = showing_text(showing)
        found = read_showing(self.world, text)
        self.assertEqual(found, showing)
        self.assertEqual(showing_text(found), text)

    def test_each_showing_and_each_sort_of_step(self):
        for showing, text in SORTS:
            self.assertEqual(read_showing(self.world, text), showing)
            self.check(showing)

    def test_one_within_another(self):
        self.assertEqual(read_showing(self.world, text_of(DEEP_LINES)), DEEP)
        self.check(DEEP)
        self.check(add_zero(b=B))
        self.check(by_number("split", "a", DEEP, ("so", A, B, DEEP, DEEP)))

    def test_the_order_of_cases(self):
        found = read_showing(self.world, text_of(DEEP_LINES))
        self.assertEqual(list(found[2]), ["next", "zero"])

    def test_what_was_read_can_be_judged(self):
        text = showing_text(add_zero(b=B))
        goal = Saying("goal", {"a": "nat", "b": "nat"}, [], add(A, ZERO), A)
        self.assertIsNone(judged(self.world, goal, read_showing(self.world, text)))

    def test_what_the_world_does_not_have(self):
        self.check(chain(saying("nowhere", a=A), row("nowhere", 7), row("next", 0), row("add", 999), held(999)))
        self.check(("through", "nowhere", {"q": (("zero", "zero"), never(999)), "add": (("a",), chain())}))
        self.check(("split", "zero", {"zero": (("zero",) * 9, chain())}))
        self.check(("so", hole("q"), of("next"), chain(), chain()))
        self.check(chain(step(("given", 0), "on", (), {"zero": of("add", A), "q": hole("nat")})))

    def test_heads_are_heads_and_all_other_words_holes(self):
        lines = ["so next nat = zero", "  chain", "    on held 0 at - with nat = nat, zero = zero", "  chain"]
        found = read_showing(self.world, text_of(lines))
        inner = chain(step(("held", 0), "on", (), {"nat": hole("nat"), "zero": ZERO}))
        self.assertEqual(found, ("so", after(hole("nat")), ZERO, inner, chain()))
        with self.assertRaises(BadText) as caught:
            read_showing(World(), text_of(lines))
        self.assertEqual(caught.exception.row, 0)
        found = read_showing(World(), text_of(["so nat = zero"] + lines[1:]))
        inner = chain(step(("held", 0), "on", (), {"nat": hole("nat"), "zero": hole("zero")}))
        self.assertEqual(found, ("so", hole("nat"), hole("zero"), inner, chain()))

    def test_words_of_the_form_as_names(self):
        words = ["on", "back", "row", "saying", "held", "given", "at", "with", "case", "chain", "so", "peel", "never"]
        for word in words + ["through", "split", "of", "hole", "say"]:
            self.check(chain(
                saying(word, (), "on", [never(0)], **{word: hole(word)}), row(word, 0, (1,), **{word: after(hole(word))}),
            ))
            self.check((word if word in ("through", "split") else "split", word, {word: ((word, word), chain())}))
            self.check(("so", hole(word), after(hole(word)), chain(), chain()))

    def test_numbers(self):
        for number in (0, 1, 9, 10, 99, 100, 999):
            self.check(never(number))
            self.check(("peel", number, chain()))
            self.check(chain(held(number), given(number, (number, number)), row("add", number, (number,), "back")))

    def test_long_places(self):
        self.check(chain(given(0, (0,) * 100)))

    def test_terms_of_sixty(self):
        self.check(("so", numeral(60), numeral(60), chain(), chain()))
        self.check(chain(step(("held", 0), "on", (), {"a": numeral(60), "b": numeral(60)})))

    def test_sixty_steps(self):
        self.check(chain(*[given(0)] * 60))
        self.check(chain(saying("cut", (), "on", [chain(*[given(0)] * 60)] * 2), *[given(0)] * 59))

    def test_twelve_deep(self):
        self.check(nested(12))
        self.check(nested(11, chain(saying("cut", (), "on", [never(0)]))))

    def test_many_inner_showings(self):
        self.check(chain(saying("cut", (), "on", [never(0), chain(), chain(held(0)), never(1)] * 5)))

    def test_each_showing_is_new(self):
        text = text_of(DEEP_LINES)
        first = read_showing(self.world, text)
        first[2]["next"][1][1][0][3]["a"] = C
        del first[2]["zero"]
        self.assertEqual(read_showing(self.world, text), DEEP)
        self.assertIsNot(read_showing(self.world, text)[2], read_showing(self.world, text)[2])


class Refused(unittest.TestCase):
    def setUp(self):
        self.world = full_world()

    def refused(self, text, at):
        with self.subTest(text=text), self.assertRaises(BadText) as caught:
            read_showing(self.world, text)
        self.assertEqual(caught.exception.row, at)

    def each_step(self, lines):
        """None of these can stand for a step, whatever follows."""
        for line in lines:
            for behind in ([], ["  on given 0 at -"], ["what is no line"]):
                self.refused(text_of(["chain", "  on given 0 at -", "  " + line] + behind), 2)

    def each_first(self, lines):
        """None of these can be the first line of a showing, whatever follows."""
        for line in lines:
            for behind in ([], ["  chain"], ["what is no line"]):
                self.refused(text_of([line] + behind), 0)
                self.refused(text_of(["peel 0", "  " + line] + behind), 1)

    def test_what_is_no_string(self):
        for text in NO_STRINGS + [chain(), b"chain\n"]:
            self.refused(text, 0)

    def test_blanks_and_indents_of_each_line(self):
        for at, line in enumerate(DEEP_LINES):
            start = len(line) - len(line.lstrip())
            others = [line + " ", line + "  ", " " + line, "  " + line, line[:start] + "x" + line[start:], ""]
            others += [line[:place] + " " + line[place:] for place in range(start, len(line)) if line[place] == " "]
            if start:
                others += [line[1:], line.lstrip()]
            for other in others:
                self.refused(text_of(DEEP_LINES[:at] + [other] + DEEP_LINES[at + 1:]), at)

    def test_lines_too_few(self):
        for many in range(len(DEEP_LINES) + 1):
            text = text_of(DEEP_LINES[:many])
            if many in (0, 2, 10, 11, 12, 14, 15, 16, 18):
                self.refused(text, many)
            else:
                self.assertEqual(showing_text(read_showing(self.world, text)), text)
        for lines in (
            ["peel 0"], ["so a = b"], ["so a = b", "  chain"], ["so a = b", "  chain", "    on given 0 at -"],
            ["split a", "  case zero"], ["split a", "  case zero", "    chain", "  case next d"],
            ["chain", "  on given 0 at -", "    peel 0"], ["so a = b", "  split a", "    case zero", "      chain"],
        ):
            self.refused(text_of(lines), len(lines))

    def test_where_a_showing_must_follow(self):
        for lines in (
            ["peel 0", "peel 0"], ["peel 0", "chain"], ["peel 0", " chain"], ["peel 0", "    chain"], ["peel 0", ""],
            ["peel 0", "  on given 0 at -"], ["peel 0", "  case zero"], ["split a", "  chain"], ["split a", "  on given 0 at -"],
            ["split a", "case zero"], ["chain", "  chain"], ["chain", "  case zero"], ["chain", "on given 0 at -"],
            ["chain", "    on given 0 at -"], ["never 0", "  chain"], ["never 0", "chain"], ["never 0", "never 0"],
            ["chain", "chain"], ["so a = b", "chain"], ["so a = b", "    chain"],
        ):
            for behind in ([], ["  chain"], ["what is no line"]):
                self.refused(text_of(lines + behind), 1)
        for lines in (
            ["so a = b", "  chain", "chain"], ["so a = b", "  chain", "    chain"], ["so a = b", "  chain", "  on given 0 at -"],
            ["split a", "  case zero", "  chain"], ["split a", "  case zero", "  case next d"],
            ["split a", "  case zero", "      chain"], ["chain", "  on given 0 at -", "  chain"],
            ["chain", "  on given 0 at -", "    on given 0 at -"], ["chain", "  on given 0 at -", "      chain"],
            ["peel 0", "  chain", "  chain"], ["peel 0", "  never 0", "    chain"],
        ):
            self.refused(text_of(lines), 2)

    def test_lines_too_many(self):
        for showing, text in SORTS:
            many = len(text.splitlines())
            for line in ("chain", "never 0", "what is no line", "", " ", "case zero", "on given 0 at -"):
                self.refused(text + line + "\n", many)
                self.refused(text + line + "\n" + "chain\n", many)
        self.refused(text_of(["so a = b", "  chain", "  chain", "  chain"]), 3)

    def test_characters_behind_the_last_line_feed(self):
        for behind in ("x", " ", "chain", "  on given 0 at -"):
            self.refused(behind, 0)
            self.refused("chain\n" + behind, 1)
            self.refused(text_of(DEEP_LINES) + behind, len(DEEP_LINES))
            self.refused(text_of(["peel 0"]) + behind, 1)
            self.refused(text_of(["peel 0", "what is no line"]) + behind, 1)
            self.refused(text_of(["never 0", "what is no line"]) + behind, 1)

    def test_the_empty_text(self):
        self.refused("", 0)
        self.refused("\n", 0)

    def test_first_lines(self):
        self.each_first([
            "", " ", "chains", "Chain", "chain a", "chain 0", "through", "through ", "through a b", "through A", "through 0",
            "through abcdefghi", "through (a)", "split", "split ", "split a b", "split 0", "peel", "peel ", "peel a",
            "peel 0 0", "peel 0 chain", "peel -", "never", "never ", "never a", "never 0 0", "never -1", "never +1",
            "so", "so ", "so a", "so a =", "so a = ", "so = b", "so  = b", "so a = b = c", "so a b", "so a = b -> a = b",
            "so (a) = b", "so a = (b)", "so a = (next b)", "so next (a) = b", "so a=b", "so a= b", "so a =b", "so A = b",
            "so a b = c", "plain", "open", "case zero", "on given 0 at -", "peel0", "never0", "soa = b", "first 0",
        ])

    def test_numbers(self):
        for number in ("1000", "9999", "00", "01", "007", "-1", "+1", "1.0", "1_0", "0x1", "", "one", "1e2", "99999999999999"):
            self.each_first([f"never {number}", f"peel {number}"])
            self.each_step([f"on held {number} at -", f"on given {number} at -", f"on row add {number} at -"])
            if number != "1.0":  # which is a place
                self.each_step([f"on given 0 at {number}", f"on given 0 at 0.{number}", f"on given 0 at {number}.0"])

    def test_steps(self):
        self.each_step([
            "", "on", "on ", "given 0 at -", "on given", "on given 0", "on given 0 at", "on given 0 at ", "on given at -",
            "On given 0 at -", "off given 0 at -", "onto given 0 at -", "on back given 0 at -", "on given a at -",
            "on given 0 0 at -", "on given 0 in -", "on given 0 -", "on given 0 at - -", "on given 0 at --", "on given 0 at 0.",
            "on given 0 at .0", "on given 0 at 0..1", "on given 0 at 0,1", "on given 0 at 0 1", "on given 0 at a",
            "on given 0 at -.0", "on given 0 at 0.-", "on given 0 at .", "on held", "on held a at -", "on held 0",
            "on saying", "on saying at -", "on saying same", "on saying Same at -", "on saying 0 at -", "on saying a b at -",
            "on row", "on row add", "on row add at -", "on row 0 at -", "on row add 0", "on row add 0 0 at -",
            "on row Add 0 at -", "on row add a at -", "on row 0 add at -", "on step 0 at -", "on lean 0 at -", "on  0 at -",
            "on given 0 at - with", "on given 0 at - with ", "on given 0 at - a = b", "on given 0 at - With a = b",
            "on given 0 at - with a", "on given 0 at - with a =", "on given 0 at - with a = ", "on given 0 at - with = b",
            "on given 0 at - with a = b,", "on given 0 at - with a = b, ", "on given 0 at - with , a = b",
            "on given 0 at - with a = b,b = a", "on given 0 at - with a = b ,b = a", "on given 0 at - with a = b b = a",
            "on given 0 at - with a = b, a = b", "on given 0 at - with a = b, a = c", "on given 0 at - with b = a, a = b",
            "on given 0 at - with a = b = c", "on given 0 at - with a=b", "on given 0 at - with A = b",
            "on given 0 at - with abcdefghi = b", "on given 0 at - with (a) = b", "on given 0 at - with a = (b)",
            "on given 0 at - with a = (next b)", "on given 0 at - with a = b c", "on given 0 at - with next a = b",
            "on given 0 at - with a = b with b = a", "on given 0 at - with a = b.", "on given 0 at-", "on given 0 at - witha = b",
            "chain", "case zero", "never 0", "so a = b",
        ])

    def test_cases(self):
        for line in (
            "", "case", "case ", "cases zero", "Case zero", "zero", "case Zero", "case 0", "case zero (a)", "case next D",
            "case next abcdefghi", "case next b, c", "case next = b", "case (zero)", "case zero:", "chain", "on given 0 at -",
        ):
            for word in ("through", "split"):
                for behind in ([], ["    chain"], ["what is no line"]):
                    self.refused(text_of([f"{word} a", "  " + line] + behind), 1)
                    ahead = [f"{word} a", "  case zero", "    chain"]
                    self.refused(text_of(ahead + ["  " + line] + behind), 3)

    def test_a_builder_has_one_case(self):
        for again in ("  case zero", "  case zero b"):
            self.refused(text_of(["split a", "  case zero", "    chain", again, "    chain"]), 3)
            self.refused(text_of(["split a", "  case zero", "    chain", "  case q", "    chain", again]), 5)

    def test_terms_of_sixty_one(self):
        most = showing_text(("so", numeral(60), A, chain(), chain())).splitlines()[0][3:-4]
        self.each_first([f"so next ({most}) = a", f"so a = next ({most})"])
        self.each_step([f"on given 0 at - with a = next ({most})", f"on given 0 at - with a = {most}, b = next ({most})"])

    def test_sixty_one_steps(self):
        lines = ["chain"] + ["  on given 0 at -"] * 60
        for behind in (["  on given 0 at -"], ["  on given 0 at -"] * 5, ["  on given 0 at -", "    chain"]):
            self.refused(text_of(lines + behind), 61)
        self.refused(text_of(lines + ["  chain"]), 61)
        inner = ["    never 0", "  on given 0 at -"]
        self.refused(text_of(lines + inner), 62)

    def test_nesting(self):
        self.refused(text_of(nested_lines(13)), 12)
        self.refused(text_of(nested_lines(13, "never 0")), 12)
        self.refused(text_of(nested_lines(13, "what is no line")), 12)
        self.refused(text_of(nested_lines(20)), 12)
        for inmost in (
            ["chain", "  on given 0 at -", "    chain"], ["through a", "  case zero", "    never 0"],
            ["split a", "  case zero", "    chain"],
        ):
            ahead = nested_lines(12, inmost[0])
            lines = ahead + [" " * 22 + line for line in inmost[1:]]
            self.refused(text_of(lines), 13)
            # One level less, and it can be read.
            read_showing(self.world, text_of([line[2:] for line in lines[1:]]))
        lines = nested_lines(12, "so a = b") + [" " * 24 + "chain"] * 2
        self.refused(text_of(lines), 12)
        read_showing(self.world, text_of([line[2:] for line in lines[1:]]))
        # Both showings of a `so` are one level below it.
        ahead = nested_lines(11, "so a = b")
        good, deep = [" " * 22 + "never 0"], [" " * 22 + "peel 0", " " * 24 + "never 0"]
        read_showing(self.world, text_of(ahead + good + good))
        self.refused(text_of(ahead + deep), 12)
        self.refused(text_of(ahead + good + deep), 13)
        # Nothing follows: what must follow is ahead of how deep it would be.
        self.refused(text_of(nested_lines(12, "peel 0")), 12)


if __name__ == "__main__":
    unittest.main()

"""Search: [16]."""

import unittest

from showhouse.errors import BadName, BadSize, BadTerm, TooMuch
from showhouse.judge import judged
from showhouse.plain import fitting
from showhouse.sayings import Saying
from showhouse.seeking import Answer, Found, Lacking, sought
from showhouse.worlds import World
from tests.judging import D, F, NAT_A, NATS, NO, NONE, YES, add, after, flip, full_world, row, saying
from tests.samples import A, B, C, NO_NAMES, NO_TERMS, ZERO, bindings_that_are_none, chain, hole, numeral, of, swap

HOLES = {"a": "nat", "b": "nat", "d": "nat", "f": "flag", "m": "list"}


def by_hand(world, names, left, right, holes, most):
    """The path and the rings of a search, as the document tells it; the path is None if it is not found."""
    if left == right:
        return [], []
    rings, paths = [[left]], [(left, [])]

    def path_of(term):
        return next((path for known, path in paths if known == term), None)

    while len(rings) <= most:
        ring = []
        for term in rings[-1]:
            for step in fitting(world, names, term, holes):
                made = taken(world, term, step)
                if made == right:
                    return path_of(term) + [step], rings
                if path_of(made) is None:
                    paths.append((made, path_of(term) + [step]))
                    ring.append(made)
        if not ring:
            return None, rings
        rings.append(ring)
    return None, rings


def taken(world, term, step):
    """The term that a step by a row or a saying without givens makes of a term."""
    (word, name, *number), way, place, bindings, _ = step
    if word == "row":
        sides = world.operators()[name][2][number[0]]
    else:
        sides = (world.sayings()[name].left(), world.sayings()[name].right())
    after_it = put_in(sides[1] if way == "on" else sides[0], bindings)
    return at_place(term, place, after_it)


def put_in(term, bindings):
    if term[0] == "hole":
        return bindings.get(term[1], term)
    return ("of", term[1], tuple(put_in(part, bindings) for part in term[2]))


def at_place(term, place, part):
    if not place:
        return part
    parts = list(term[2])
    parts[place[0]] = at_place(parts[place[0]], place[1:], part)
    return ("of", term[1], tuple(parts))


class Searching(unittest.TestCase):
    def setUp(self):
        self.world = full_world()

    def with_saying(self, *parts):
        self.world = self.world.with_saying(Saying(*parts))

    def found(self, names, left, right, path, rings, most=4, holes=None):
        answer = sought(self.world, names, left, right, holes or HOLES, most=most)
        self.assertIsInstance(answer, Found)
        self.assertEqual((answer.path, answer.rings), (path, rings))
        self.assertEqual((path, rings), by_hand(self.world, names, left, right, holes or HOLES, most))
        self.assertTrue(answer.shows(self.world, names, left, right, holes or HOLES, most=most))
        goal = Saying("goal", {"a": "nat", "b": "nat", "d": "nat", "f": "flag", "m": "list"}, [], left, right)
        self.assertIsNone(judged(self.world, goal, chain(*answer.path)))

    def lacks(self, names, left, right, rings, most=4, holes=None):
        answer = sought(self.world, names, left, right, holes or HOLES, most=most)
        self.assertIsInstance(answer, Lacking)
        self.assertEqual(answer.rings, rings)
        self.assertEqual((None, rings), by_hand(self.world, names, left, right, holes or HOLES, most))
        self.assertTrue(answer.shows(self.world, names, left, right, holes or HOLES, most=most))


class Answers(Searching):
    def test_left_and_right_the_same(self):
        for most in range(7):
            self.found(["swap"], add(A, B), add(A, B), [], [], most)
        self.found([], A, A, [], [], 0)

    def test_one_step(self):
        self.found(["swap"], add(A, B), add(B, A), [saying("swap", a=A, b=B)], [[add(A, B)]])
        self.found(["swap"], add(A, B), add(B, A), [saying("swap", a=A, b=B)], [[add(A, B)]], 1)
        self.found(("flip",), flip(YES), NO, [row("flip", 1)], [[flip(YES)]])

    def test_the_first_step_counts(self):
        # The same term is reached on and back; and by the first place at which a step reaches it.
        self.found(["swap"], add(A, A), add(A, A), [], [])
        self.with_saying("turn", {"b": "nat", "a": "nat"}, [], add(A, B), add(B, A))
        self.found(["turn"], add(A, B), add(B, A), [saying("turn", b=B, a=A)], [[add(A, B)]])
        self.found(["turn", "swap"], add(A, B), add(B, A), [saying("swap", a=A, b=B)], [[add(A, B)]])
        self.with_saying("odd", {}, [], ZERO, after(ZERO))
        self.found(["odd"], of("pick", ZERO, F, ZERO), of("pick", ZERO, F, after(ZERO)),
                   [saying("odd", (2,))], [[of("pick", ZERO, F, ZERO)]])

    def test_several_steps_and_rings_in_order(self):
        first = add(add(A, B), D)
        second = [add(D, add(A, B)), add(add(B, A), D)]
        self.found(
            ["swap"], first, add(D, add(B, A)),
            [saying("swap", a=add(A, B), b=D), saying("swap", (1,), a=A, b=B)], [[first], second],
        )
        self.found(
            ["swap"], first, add(D, add(B, A)),
            [saying("swap", a=add(A, B), b=D), saying("swap", (1,), a=A, b=B)], [[first], second], 2,
        )
        self.lacks(["swap"], first, add(D, add(B, A)), [[first], second], 1)

    def test_the_path_of_a_term_is_by_the_first_step_that_leads_to_it(self):
        first = add(add(A, B), D)
        self.with_saying("base", NAT_A, [], add(ZERO, A), A)
        target = add(D, add(B, A))
        answer = sought(self.world, ["base", "swap"], add(ZERO, first), target, HOLES)
        path, rings = by_hand(self.world, ["base", "swap"], add(ZERO, first), target, HOLES, 4)
        self.assertEqual((answer.path, answer.rings), (path, rings))
        self.assertEqual(len(path), 3)

    def test_lacking(self):
        self.lacks([], A, B, [[A]])
        self.lacks(["swap"], add(A, B), A, [[add(A, B)], [add(B, A)]])
        self.lacks(["swap"], add(A, B), A, [[add(A, B)], [add(B, A)]], 2)
        self.lacks(["swap"], add(A, B), A, [[add(A, B)], [add(B, A)]], 1)
        self.lacks(["swap"], add(A, B), add(B, A), [[add(A, B)]], 0)

    def test_one_ring_more_than_steps(self):
        self.with_saying("step", {}, [], YES, flip(YES))
        rings = [[YES], [flip(YES)], [flip(flip(YES))], [flip(flip(flip(YES)))], [flip(flip(flip(flip(YES))))]]
        for most in range(5):
            self.lacks(["step"], YES, NO, rings[:most + 1], most)
        self.assertEqual(len(sought(self.world, ["step"], YES, NO, {}).rings), 5)
        self.assertEqual(len(sought(self.world, ["step"], YES, NO, {}, most=6).rings), 7)
        self.found(["step"], YES, rings[4][0], [saying("step", (0,) * depth) for depth in range(4)], rings[:4])

    def test_names_of_operators_and_sayings(self):
        self.found(
            ["swap", "add"], add(A, after(ZERO)), after(A),
            [saying("swap", a=A, b=after(ZERO)), row("add", 1, a=ZERO, b=A), row("add", 0, (0,), b=A)],
            by_hand(self.world, ["swap", "add"], add(A, after(ZERO)), after(A), HOLES, 4)[1],
        )

    def test_the_number_of_steps(self):
        self.with_saying("step", {}, [], YES, flip(YES))
        term = YES
        for _ in range(6):
            term = flip(term)
        self.assertIsInstance(sought(self.world, ["step"], YES, term, {}, most=6), Found)
        self.assertIsInstance(sought(self.world, ["step"], YES, term, {}, most=5), Lacking)
        self.assertIsInstance(sought(self.world, ["step"], YES, term, {}), Lacking)
        self.assertIsInstance(sought(self.world, ["step"], YES, term[2][0][2][0], {}), Found)


def fan():
    """A world with lines, which have three builders that take a line."""
    world = World().with_kind("nat", [("zero", ()), ("next", ("nat",))])
    return world.with_kind("line", [("nil", ()), ("one", ("line",)), ("two", ("line",)), ("six", ("line",))])


class Bounds(unittest.TestCase):
    def setUp(self):
        # Each term has three new ones in the next ring: 1 + 3 + 9 + 27 + 81 = 121, and 243 more in the ring behind.
        self.world = fan()
        self.names = ["goone", "gotwo", "gosix"]
        for name in self.names:
            self.world = self.world.with_saying(Saying(name, {}, [], of("nil"), of(name[2:], of("nil"))))
        self.holes = {"m": "line"}

    def term(self, heads):
        made = of("nil")
        for head in reversed(heads):
            made = of(head, made)
        return made

    def order(self):
        """All terms in the order in which they are reached."""
        rows = [[]]
        at = 0
        while at < 500:
            rows.extend([rows[at] + [head] for head in ("one", "two", "six")])
            at += 1
        return [self.term(heads) for heads in rows]

    def test_the_301st_term(self):
        order = self.order()
        self.assertEqual(order[120], self.term(["six"] * 4))
        for at in (1, 120, 121, 298, 299, 300):
            answer = sought(self.world, self.names, of("nil"), order[at], {}, most=6)
            self.assertIsInstance(answer, Found, at)
            self.assertTrue(answer.shows(self.world, self.names, of("nil"), order[at], {}, most=6))
        for at in (301, 302, 363):
            with self.assertRaises(TooMuch):
                sought(self.world, self.names, of("nil"), order[at], {}, most=6)
        with self.assertRaises(TooMuch):
            sought(self.world, self.names, of("nil"), hole("m"), self.holes, most=5)

    def test_fewer_terms_are_not_too_much(self):
        answer = sought(self.world, self.names, of("nil"), hole("m"), self.holes, most=4)
        self.assertEqual([len(ring) for ring in answer.rings], [1, 3, 9, 27, 81])
        self.assertEqual([term for ring in answer.rings for term in ring], self.order()[:121])

    def test_exactly_three_hundred_terms(self):
        # Each of these sayings fits at each place of a numeral, and each result is another term.
        world = full_world()
        names = []
        for at, letter in enumerate("bcdefghijklmn"):
            world = world.with_saying(Saying("s" + letter, NAT_A, [], A, add(numeral(at + 1), A)))
            names.append("s" + letter)
        answer = sought(world, names, numeral(23), hole("a"), NAT_A, most=1)
        self.assertEqual([len(ring) for ring in answer.rings], [1, 299])
        with self.assertRaises(TooMuch):
            sought(world, names[:-1], numeral(25), hole("a"), NAT_A, most=1)
        last = at_place(numeral(25), (0,) * 24, add(numeral(12), ZERO))
        self.assertEqual(len(sought(world, names[:-1], numeral(25), last, {}, most=1).path), 1)
        self.assertEqual(len(sought(world, names[:-1], numeral(24), hole("a"), NAT_A, most=1).rings[1]), 288)


class Refusals(Searching):
    def refused(self, error, names, left, right, holes, most=4):
        with self.assertRaises(error):
            sought(self.world, names, left, right, holes, most=most)

    def test_bad_names_come_first(self):
        for names in (None, "add", {"add"}, ["what"], ["zero"], ["nat"], ["add", "add"], [None], 0, [["add"]]):
            self.refused(BadName, names, ZERO, ZERO, {})
            self.refused(BadName, names, None, ZERO, {}, 7)
        for value in NO_NAMES:
            self.refused(BadName, [value], ZERO, ZERO, {})

    def test_bad_terms_come_second(self):
        for value in NO_TERMS + [C, hole("e"), add(A, F), of("what"), numeral(61)]:
            self.refused(BadTerm, ["add"], value, ZERO, HOLES)
            self.refused(BadTerm, ["add"], ZERO, value, HOLES)
            self.refused(BadTerm, ["add"], value, value, HOLES, 7)
        self.refused(BadTerm, ["add"], ZERO, YES, HOLES)
        self.refused(BadTerm, ["add"], F, A, HOLES, -1)
        for value in bindings_that_are_none() + [{"zero": "nat"}, {"a": "what"}]:
            self.refused(BadTerm, ["add"], ZERO, ZERO, value)

    def test_bad_sizes_come_third(self):
        for most in (-1, 7, True, False, None, "4", (), [], 100):
            self.refused(BadSize, ["add"], ZERO, ZERO, {}, most)
            self.refused(BadSize, ["swap"], ZERO, after(ZERO), {}, most)
        self.world = fan()
        for head in ("one", "two", "six"):
            self.with_saying("go" + head, {}, [], of("nil"), of(head, of("nil")))
        names = ["goone", "gotwo", "gosix"]
        self.refused(BadSize, names, of("nil"), hole("m"), {"m": "line"}, 7)
        self.refused(TooMuch, names, of("nil"), hole("m"), {"m": "line"}, 6)

    def test_most_is_keyword_only(self):
        with self.assertRaises(TypeError):
            sought(self.world, ["add"], ZERO, ZERO, {}, 4)


class Shows(Searching):
    """What an answer says of itself once its attributes are changed."""

    def arguments(self):
        return self.world, ["swap"], add(add(A, B), D), add(D, add(B, A)), HOLES

    def changed(self, answer, change, expected=False):
        change(answer)
        self.assertIs(answer.shows(*self.arguments()), expected)

    def found_one(self):
        return sought(*self.arguments())

    def test_found(self):
        self.assertIs(self.found_one().shows(*self.arguments()), True)
        self.changed(self.found_one(), lambda one: one.path.pop())
        self.changed(self.found_one(), lambda one: one.path.reverse())
        self.changed(self.found_one(), lambda one: one.path.clear())
        self.changed(self.found_one(), lambda one: one.path.append(saying("swap", a=A, b=B)))
        self.changed(self.found_one(), lambda one: one.path[0][3].clear())
        self.changed(self.found_one(), lambda one: one.rings.pop())
        self.changed(self.found_one(), lambda one: one.rings.append([]))
        self.changed(self.found_one(), lambda one: one.rings[1].reverse())
        self.changed(self.found_one(), lambda one: one.rings[1].pop())
        self.changed(self.found_one(), lambda one: one.rings[1].append(A))
        self.changed(self.found_one(), lambda one: one.rings.reverse())

    def test_the_order_of_bindings_does_not_count(self):
        answer = self.found_one()
        step = answer.path[0]
        answer.path[0] = step[:3] + ({name: step[3][name] for name in reversed(list(step[3]))},) + step[4:]
        self.assertIs(answer.shows(*self.arguments()), True)

    def test_another_path_is_not_the_one(self):
        # It leads there, too, but not by the first steps.
        path = [saying("swap", (0,), a=A, b=B), saying("swap", a=add(B, A), b=D)]
        answer = self.found_one()
        self.assertTrue(Found(answer.path, answer.rings).shows(*self.arguments()))
        self.assertFalse(Found(path, answer.rings).shows(*self.arguments()))

    def test_other_arguments(self):
        world, names, left, right, holes = self.arguments()
        answer = self.found_one()
        self.assertTrue(answer.shows(world, tuple(names), left, right, holes))
        self.assertTrue(answer.shows(world, names, left, right, holes, most=2))
        self.assertFalse(answer.shows(world, names, left, right, holes, most=1))
        self.assertFalse(answer.shows(world, [], left, right, holes))
        self.assertFalse(answer.shows(world, names, right, left, holes))
        self.assertFalse(answer.shows(world, names, left, left, holes))
        self.assertFalse(answer.shows(world, names, left, A, holes))
        with self.assertRaises(TypeError):
            answer.shows(world, names, left, right, holes, 4)

    def test_lacking(self):
        world, names, left, _, holes = self.arguments()
        answer = sought(world, names, left, A, holes)
        self.assertIs(answer.shows(world, names, left, A, holes), True)
        self.assertIs(answer.shows(world, names, left, B, holes), True)
        self.assertIs(answer.shows(world, names, left, A, holes, most=2), True)
        self.assertIs(answer.shows(world, names, left, A, holes, most=1), False)
        self.assertIs(answer.shows(world, names, left, add(D, add(B, A)), holes), False)
        self.assertIs(answer.shows(world, names, left, left, holes), False)
        for change in (lambda one: one.rings.pop(), lambda one: one.rings.append([]), lambda one: one.rings[1].reverse(),
                       lambda one: one.rings.clear(), lambda one: one.rings[0].append(A)):
            answer = sought(world, names, left, A, holes)
            change(answer)
            self.assertIs(answer.shows(world, names, left, A, holes), False)

    def test_the_rings_of_what_is_found_lack_nothing_else(self):
        world, names, left, right, holes = self.arguments()
        self.assertFalse(Lacking(self.found_one().rings).shows(world, names, left, right, holes))
        self.assertFalse(Lacking([]).shows(world, names, left, left, holes))
        self.assertFalse(Found([], [[left]]).shows(world, [], left, right, holes))
        self.assertTrue(Found([], []).shows(world, [], left, left, holes))
        self.assertTrue(Lacking([[left]]).shows(world, [], left, right, holes))


class Copies(Searching):
    def test_answers(self):
        self.assertTrue(issubclass(Found, Answer) and issubclass(Lacking, Answer))
        self.assertFalse(issubclass(Found, Lacking) or issubclass(Lacking, Found))

    def test_lists_are_copied_and_nested_ones_too(self):
        rings = [[add(A, B)], [add(B, A)]]
        path = [saying("swap", a=A, b=B)]
        for answer in (Found(path, rings), Lacking(rings)):
            rings[0].append(A)
            rings.append([])
            self.assertEqual(answer.rings, [[add(A, B)], [add(B, A)]])
            del rings[0][1:], rings[2:]
        answer = Found(path, rings)
        path[0][3].clear()
        path.clear()
        self.assertEqual(answer.path, [saying("swap", a=A, b=B)])
        answer.rings[0].clear()
        self.assertEqual(rings, [[add(A, B)], [add(B, A)]])

    def test_inner_showings_are_copied_too(self):
        inner = ("split", "a", {"zero": ((), chain(row("add", 0, b=ZERO)))})
        answer = Found([saying("cut", inner=[inner], a=A, b=B)], [])
        inner[2].clear()
        kept = answer.path[0][4][0][2]
        self.assertEqual(kept, {"zero": ((), chain(row("add", 0, b=ZERO)))})

    def test_arguments_are_neither_modified_nor_kept(self):
        names, holes = ["swap"], {"a": "nat", "b": "nat"}
        answer = sought(self.world, names, add(A, B), add(B, A), holes)
        self.assertEqual((names, holes), (["swap"], {"a": "nat", "b": "nat"}))
        self.assertTrue(answer.shows(self.world, names, add(A, B), add(B, A), holes))
        names.clear()
        holes.clear()
        self.assertEqual(answer.path, [saying("swap", a=A, b=B)])
        again = sought(self.world, ["swap"], add(A, B), add(B, A), NATS)
        again.path.clear()
        again.rings[0].clear()
        self.assertEqual(sought(self.world, ["swap"], add(A, B), add(B, A), NATS).rings, [[add(A, B)]])
        self.assertEqual(swap(), self.world.sayings()["swap"])
        self.assertEqual(NONE, of("none"))


if __name__ == "__main__":
    unittest.main()

"""Terms, worlds and values that several tests use."""

from showhouse.sayings import Saying
from showhouse.worlds import World


def hole(name):
    return ("hole", name)


def of(head, *terms):
    return ("of", head, terms)


A = hole("a")
B = hole("b")
C = hole("c")
ZERO = of("zero")

NAT = [("zero", ()), ("next", ("nat",))]
LIST = [("none", ()), ("put", ("nat", "list"))]
FLAG = [("yes", ()), ("no", ())]

ADD_ROWS = [
    (of("add", ZERO, B), B),
    (of("add", of("next", A), B), of("next", of("add", A, B))),
]

NO_NAMES = [
    "", "abcdefghi", "Nat", "naT", "nat1", "1", "na t", " nat", "nat ", "nat\n", "\n", " ", "na_t", "-",
    None, True, False, 0, 1, b"nat", ["nat"], ("nat",), {"nat": 1}, {"nat"}, object(),
]

NO_TERMS = [
    None, True, False, 0, 1, "", "a", b"a", [], {}, set(), object(), (),
    ("hole",), ("hole", "A"), ("hole", ""), ("hole", 1), ("hole", True), ("hole", ["a"]),
    ("hole", "abcdefghi"), ("hole", "a", ()), ["hole", "a"], ("gap", "a"), (True, "a"), (["hole"], "a"),
    ("of",), ("of", "zero"), ("of", "zero", []), ("of", "zero", None), ("of", "zero", "a"),
    ("of", "Zero", ()), ("of", 0, ()), ("of", ["zero"], ()), ["of", "zero", ()], ("on", "zero", ()),
    ("of", "zero", (), ()), ("of", "next", (None,)), ("of", "next", ("a",)), ("of", "next", (("hole", ""),)),
    ("of", "next", (["hole", "a"],)), ("hole", "a", "b", "c"),
]


NO_NUMBERS = [
    -1, 1000, True, False, None, "", "0", b"0", (), (0,), [], [0], {}, {0}, object(),
]


def numeral(count):
    """The term with `count` heads: zero, and `next` around it."""
    term = ZERO
    for _ in range(count - 1):
        term = of("next", term)
    return term


def numbers():
    """The world with natural numbers and their addition."""
    return World().with_kind("nat", NAT).with_operator("add", ("nat", "nat"), "nat", ADD_ROWS)


def lists():
    """The world with numbers, addition, lists and two truths."""
    return numbers().with_kind("list", LIST).with_kind("flag", FLAG)


def swap(name="swap"):
    """The saying that a + b = b + a."""
    return Saying(name, {"a": "nat", "b": "nat"}, [], of("add", A, B), of("add", B, A))


def step(by, way="on", place=(), bindings=None, inner=()):
    """A step of a showing."""
    return (by, way, place, dict(bindings or {}), tuple(inner))


def chain(*steps):
    """A showing by these steps."""
    return ("chain", steps)


def bindings_that_are_none():
    """What stands in the place of bindings, or of the cases of a showing, and is no dict."""
    return [None, True, 0, "", "a", (), (("a", ZERO),), [], [("a", ZERO)], {"a"}, object()]

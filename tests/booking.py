"""What the tests of books share: entries of each sort, and what a book tells."""

from showhouse.books import Book
from showhouse.house import House
from showhouse.sayings import Saying
from tests.judging import NAT_A, NATS, add, add_zero, after, held, row, saying
from tests.roading import OPEN, PLAIN, lean, seek, through
from tests.samples import A, ADD_ROWS, B, C, FLAG, LIST, NAT, ZERO, chain

KIND = ("kind", "nat", NAT)
LISTS = ("kind", "list", LIST)
FLAGS = ("kind", "flag", FLAG)
ADD = ("operator", "add", ("nat", "nat"), "nat", ADD_ROWS)
FIRST = [KIND, ADD]
OPENED = ("road", OPEN)

BY_HELD = lean(("row", "add", 1), lean(("held", 0), PLAIN, (0,)))


def say(name, holes, givens, left, right, means=OPENED):
    return ("say", Saying(name, holes, givens, left, right), means)


def base(means=None, name="base"):
    """The entry that add a zero = a, shown by induction."""
    return say(name, NAT_A, [], add(A, ZERO), A, add_zero() if means is None else means)


def shift(means=None, name="shift"):
    """The entry that add a (next b) = next (add a b), with a road."""
    road = ("road", through("a", PLAIN, BY_HELD))
    return say(name, NATS, [], add(A, after(B)), after(add(A, B)), road if means is None else means)


def commutes(means=None, name="swap"):
    """The entry that add a b = add b a, shown by means of base and shift."""
    showing = ("through", "a", {
        "zero": ((), chain(row("add", 0, b=B), saying("base", way="back", a=B))),
        "next": (("c",), chain(
            row("add", 1, a=C, b=B), held(0, (0,), b=B), saying("shift", way="back", a=B, b=C),
        )),
    })
    return say(name, NATS, [], add(A, B), add(B, A), showing if means is None else means)


def commutes_by_road():
    return commutes(("road", through("a", seek("base"), lean(
        ("row", "add", 1), lean(("held", 0), seek("shift"), (0,)),
    ))))


def by_saying(name, other, way="on", **bindings):
    """An entry that states the same as base, and goes by another saying that states it."""
    return base(chain(saying(other, way=way, **(bindings or {"a": A}))), name)


def sums():
    """The book of addition, in which everything holds."""
    return [KIND, ADD, base(), shift(), commutes()]


def entry_name(entry):
    return entry[1].name() if entry[0] == "say" else entry[1]


def told(book):
    """All that a book tells, but for its entries."""
    found = {"states": book.states(), "whole": book.whole()}
    for (name, state), entry in zip(book.states(), book.entries()):
        if entry[0] == "say" and state != "none":
            slip = book.slip(name)
            found[name] = (
                book.showing(name), None if slip is None else (slip.where, slip.why), book.left(name),
                book.leant(name), book.borne(name),
            )
    return found


def deeds_between(before, entries):
    """The deeds that make other entries of some entries."""
    return [("take", entry_name(entry)) for entry in before] + [("put", entry, None) for entry in entries]


def judged_again(test, before, entries):
    """Who is judged again when a book changes; the book must be told as if it were judged anew."""
    house = House(Book(before))
    heard = []
    names = house.together(deeds_between(before, entries), heard=heard.append)
    test.assertEqual(names, heard)
    test.assertEqual(house.book(), Book(entries))
    test.assertEqual(told(house.book()), told(Book(entries)))
    # And back again: what is undone tells what it told before.
    house.undo()
    test.assertEqual(told(house.book()), told(Book(before)))
    return names

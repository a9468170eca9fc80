"""Worths: evaluation of terms, all small worths of a kind, and trials of sayings."""

from showhouse.errors import BadName, BadSaying, BadSize, BadTerm, TooMuch
from showhouse.reckoning import Reckoner
from showhouse.terms import filled, is_big, is_name, is_number

MOST_WORTHS = 2000
MOST_ASSIGNMENTS = 2000
MOST_SIZE = 12


class Stock:
    """The worths of the kinds of one world. They are counted first: what is counted may be too much to list."""

    def __init__(self, world):
        self._kinds = world.kinds()
        self._counts = {}
        self._lists = {}

    def _count(self, kind, size):
        """Return how many worths of exactly this size the kind has."""
        if (kind, size) not in self._counts:
            builders = self._kinds[kind]
            self._counts[(kind, size)] = sum([self._row_count(takes, size - 1) for _, takes in builders])
        return self._counts[(kind, size)]

    def _row_count(self, takes, size):
        """Return how many rows of worths there are, one for each kind, with sizes that add up to this one."""
        if not takes:
            return 1 if size == 0 else 0
        return sum([
            self._count(takes[0], first) * self._row_count(takes[1:], size - first)
            for first in range(1, size + 1)
        ])

    def _listed(self, kind, size):
        """List the worths of exactly this size, in order."""
        if (kind, size) not in self._lists:
            self._lists[(kind, size)] = [
                ("of", builder, row)
                for builder, takes in self._kinds[kind] for row in self._row_list(takes, size - 1)
            ]
        return self._lists[(kind, size)]

    def _row_list(self, takes, size):
        """List the rows of worths that `_row_count` counts, in order."""
        if not takes:
            return [()] if size == 0 else []
        found = []
        for first in range(1, size + 1):
            # Only what becomes part of a row is listed; the rest may be far too much.
            if self._count(takes[0], first) and self._row_count(takes[1:], size - first):
                rests = self._row_list(takes[1:], size - first)
                found.extend([(worth, *rest) for worth in self._listed(takes[0], first) for rest in rests])
        return found

    def up_to(self, kind, size):
        """List the worths up to this size, in order; raise TooMuch if there are more than 2000."""
        if sum([self._count(kind, exact) for exact in range(1, size + 1)]) > MOST_WORTHS:
            raise TooMuch("more than 2000 worths")
        return [worth for exact in range(1, size + 1) for worth in self._listed(kind, exact)]


def reckoned(world, term):
    """Evaluate a term without holes, and return its worth."""
    if world.kind_of(term, {}) is None:
        raise BadTerm("the term has a hole or no kind")
    return Reckoner(world).worth_of(term)


def _check_size(size):
    if not is_number(size, MOST_SIZE):
        raise BadSize("a size is an integer from 0 to 12")


def worths(world, kind, size):
    """Return a new list of all worths of the kind up to the size, in order."""
    if not is_name(kind) or kind not in world.kinds():
        raise BadName("there is no such kind")
    _check_size(size)
    return Stock(world).up_to(kind, size)


def _assignment(holes, choices, number):
    """Return the assignment with this number; the last hole changes fastest."""
    picked = []
    for choice in reversed(choices):
        number, at = divmod(number, len(choice))
        picked.append(choice[at])
    return dict(zip(holes, list(reversed(picked))))


def _is_same(reckoner, pair, bindings):
    """Tell whether both sides have the same worth once worths have replaced the holes."""
    found = []
    for side in pair:
        term = filled(side, bindings)
        if is_big(term):
            raise TooMuch("a term has more than 60 heads")
        found.append(reckoner.worth_of(term))
    return found[0] == found[1]


def _is_spoiled(reckoner, saying, bindings):
    """Tell whether an assignment makes the sides of each given the same, but not left and right."""
    for given in saying.givens():
        if not _is_same(reckoner, given, bindings):
            return False
    return not _is_same(reckoner, (saying.left(), saying.right()), bindings)


def tried(world, saying, *, size=3):
    """Return a new dict, the first assignment of worths up to the size that spoils the saying, or None."""
    if not world.fits(saying):
        raise BadSaying("this is no saying of the world")
    _check_size(size)
    stock = Stock(world)
    holes = saying.holes()
    choices = [stock.up_to(kind, size) for kind in holes.values()]
    many = 1
    for choice in choices:
        many = many * len(choice)
    if many > MOST_ASSIGNMENTS:
        raise TooMuch("more than 2000 assignments")
    reckoner = Reckoner(world)
    for number in range(many):
        bindings = _assignment(holes, choices, number)
        if _is_spoiled(reckoner, saying, bindings):
            return bindings
    return None

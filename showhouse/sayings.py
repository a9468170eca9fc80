"""Sayings: conditional equations, as far as no world is needed to tell what they are."""

from showhouse.errors import BadSaying
from showhouse.terms import is_name, is_term, is_term_pair

MOST_HOLES = 6
MOST_GIVENS = 4


def _are_holes(holes):
    return (
        isinstance(holes, dict)
        and len(holes) <= MOST_HOLES
        and all([is_name(hole) and is_name(kind) for hole, kind in holes.items()])
    )


def _are_givens(givens):
    return (
        isinstance(givens, list)
        and len(givens) <= MOST_GIVENS
        and all([is_term_pair(given) for given in givens])
    )


class Saying:
    """If the two sides of each given are the same, then left and right are the same."""

    def __init__(self, name, holes, givens, left, right):
        if not is_name(name):
            raise BadSaying("a saying has a name")
        if not _are_holes(holes):
            raise BadSaying("the holes are a dict from at most 6 names to kinds")
        if not _are_givens(givens):
            raise BadSaying("the givens are a list of at most 4 pairs of terms")
        if not is_term(left) or not is_term(right):
            raise BadSaying("left and right are terms")
        self._name = name
        self._holes = dict(holes)
        self._givens = list(givens)
        self._left = left
        self._right = right

    def name(self):
        """Return the name."""
        return self._name

    def holes(self):
        """Return a new dict from the names of the holes to their kinds."""
        return dict(self._holes)

    def givens(self):
        """Return a new list of the pairs of terms that are given."""
        return list(self._givens)

    def left(self):
        """Return the left term."""
        return self._left

    def right(self):
        """Return the right term."""
        return self._right

    def again(self):
        """Return a new saying that is equal to this one."""
        return Saying(self._name, self._holes, self._givens, self._left, self._right)

    def __eq__(self, other):
        return (
            isinstance(other, Saying)
            and self._name == other._name
            and list(self._holes.items()) == list(other._holes.items())
            and self._givens == other._givens
            and self._left == other._left
            and self._right == other._right
        )

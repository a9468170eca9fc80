"""Search for steps from one term to another."""

from showhouse.copies import copied
from showhouse.errors import BadSize, BadTerm, TooMuch
from showhouse.finder import Finder
from showhouse.lore import Lore
from showhouse.plain import check_names
from showhouse.terms import is_number
from showhouse.wording import written_term

MOST_RINGS = 6
MOST_TERMS = 300


def searched(finder, rules, left, right, most):
    """Return the steps from left to right, or None, and the rings; raise TooMuch if that is too much."""
    if left == right:
        return [], []
    rings = [[left]]
    # Terms are told apart by their texts, because a key should not be nested as deeply as they are.
    paths = {written_term(left): []}
    while len(rings) <= most:
        ring = []
        for term in rings[-1]:
            path = paths[written_term(term)]
            for step, made in finder.steps(rules, term):
                if made == right:
                    return [*path, step], rings
                text = written_term(made)
                if text in paths:
                    continue
                if len(paths) == MOST_TERMS:
                    raise TooMuch("more than 300 terms")
                paths[text] = [*path, step]
                ring.append(made)
        if not ring:
            break
        rings.append(ring)
    return None, rings


def _searched_in(world, names, left, right, holes, most):
    lore = Lore(world)
    return searched(Finder(lore, holes), lore.rules(names), left, right, most)


class Answer:
    """What a search comes to."""


class Found(Answer):
    """The steps that lead to the right term, and the rings ahead of its own."""

    def __init__(self, path, rings):
        self.path = copied(path)
        self.rings = copied(rings)

    def shows(self, world, names, left, right, holes, *, most=4):
        """Tell whether this is what such a search comes to."""
        path, rings = _searched_in(world, names, left, right, holes, most)
        return path is not None and self.path == path and self.rings == rings


class Lacking(Answer):
    """All rings of a search that does not reach the right term."""

    def __init__(self, rings):
        self.rings = copied(rings)

    def shows(self, world, names, left, right, holes, *, most=4):
        """Tell whether this is what such a search comes to."""
        path, rings = _searched_in(world, names, left, right, holes, most)
        return path is None and self.rings == rings


def sought(world, names, left, right, holes, *, most=4):
    """Search for at most so many steps from left to right; return a Found or a Lacking."""
    check_names(Lore(world), names)
    kind = world.kind_of(left, holes)
    if kind is None or kind != world.kind_of(right, holes):
        raise BadTerm("both sides have one kind")
    if not is_number(most, MOST_RINGS):
        raise BadSize("the number of steps is an integer from 0 to 6")
    path, rings = _searched_in(world, names, left, right, holes, most)
    return Lacking(rings) if path is None else Found(path, rings)

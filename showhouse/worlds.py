"""Worlds: kinds with their builders, operators with their rows, and sayings."""

from showhouse.errors import BadKind, BadOperator, BadSaying, BadTerm
from showhouse.rows import check_rows, row_holes
from showhouse.sayings import Saying
from showhouse.terms import is_name, is_term, term_kind

MOST_KINDS = 6
MOST_HEADS = 40
MOST_SAYINGS = 40
MOST_BUILDERS = 4
MOST_TAKEN = 3


def _is_builder(value):
    return (
        isinstance(value, tuple)
        and len(value) == 2
        and is_name(value[0])
        and isinstance(value[1], tuple)
        and len(value[1]) <= MOST_TAKEN
        and all([is_name(kind) for kind in value[1]])
    )


def _check_builders(name, builders, kinds):
    """Raise BadKind unless these are builders of a new kind of this name, beside these kinds."""
    if not isinstance(builders, list) or not all([_is_builder(builder) for builder in builders]):
        raise BadKind("the builders are a list of pairs of a name and a tuple of kinds")
    if not 1 <= len(builders) <= MOST_BUILDERS:
        raise BadKind("a kind has 1 to 4 builders")
    for builder, takes in builders:
        if not all([kind == name or kind in kinds for kind in takes]):
            raise BadKind("a builder takes earlier kinds and its own kind")
    if all([name in takes for builder, takes in builders]):
        raise BadKind("at least one builder takes only earlier kinds")


class World:
    """A world is never modified: what it takes up belongs to a new world."""

    def __init__(self):
        self._kinds = {}
        self._operators = {}
        self._sayings = {}
        # What each head takes and gives; builders and operators share their names.
        self._heads = {}
        # The names of holes that no head may take any more.
        self._hole_names = {}
        # Pairs of a word and a name; the dicts do not tell how kinds, operators and sayings alternate.
        self._parts = []

    def again(self):
        """Return a new world that is equal to this one."""
        made = World()
        made._kinds = dict(self._kinds)
        made._operators = dict(self._operators)
        made._sayings = dict(self._sayings)
        made._heads = dict(self._heads)
        made._hole_names = dict(self._hole_names)
        made._parts = list(self._parts)
        return made

    def _may_be_heads(self, names):
        return (
            len(self._heads) + len(names) <= MOST_HEADS
            and len(set(names)) == len(names)
            and not any([name in self._heads or name in self._hole_names for name in names])
        )

    def _is_kind(self, value):
        return is_name(value) and value in self._kinds

    def _are_holes(self, value):
        return isinstance(value, dict) and all([
            is_name(hole) and hole not in self._heads and self._is_kind(kind)
            for hole, kind in value.items()
        ])

    def _is_equation(self, left, right, holes):
        kind = term_kind(left, self._heads, holes)
        return kind is not None and kind == term_kind(right, self._heads, holes)

    def with_kind(self, name, builders):
        """Return a new world with one more kind."""
        if not is_name(name) or name in self._kinds:
            raise BadKind("a kind has a new name")
        if len(self._kinds) == MOST_KINDS:
            raise BadKind("a world has at most 6 kinds")
        _check_builders(name, builders, self._kinds)
        if not self._may_be_heads([builder for builder, takes in builders]):
            raise BadKind("the builders have new names, and there are at most 40 heads")
        made = self.again()
        made._kinds[name] = tuple(builders)
        for builder, takes in builders:
            made._heads[builder] = (takes, name)
        made._parts.append(("kind", name))
        return made

    def with_operator(self, name, takes, gives, rows):
        """Return a new world with one more operator."""
        if not is_name(name) or not self._may_be_heads([name]):
            raise BadOperator("an operator has a new name, and there are at most 40 heads")
        if not isinstance(takes, tuple) or len(takes) > MOST_TAKEN:
            raise BadOperator("an operator takes a tuple of 0 to 3 kinds")
        if not all([self._is_kind(kind) for kind in takes]) or not self._is_kind(gives):
            raise BadOperator("an operator takes and gives kinds of the world")
        check_rows(name, takes, gives, rows, self._kinds, self._heads)
        made = self.again()
        made._operators[name] = (takes, gives, tuple(rows))
        made._heads[name] = (takes, gives)
        for left, right in rows:
            for hole, kind in row_holes(left, takes, self._heads):
                made._hole_names[hole] = True
        made._parts.append(("operator", name))
        return made

    def fits(self, saying):
        """Tell whether this is a saying of this world, whatever its name."""
        if not isinstance(saying, Saying):
            return False
        holes = saying.holes()
        equations = saying.givens() + [(saying.left(), saying.right())]
        return self._are_holes(holes) and all([
            self._is_equation(left, right, holes) for left, right in equations
        ])

    def with_saying(self, saying):
        """Return a new world with one more saying."""
        if not self.fits(saying):
            raise BadSaying("the holes have kinds of the world, and the two sides one kind")
        if saying.name() in self._sayings:
            raise BadSaying("a saying has a new name")
        if len(self._sayings) == MOST_SAYINGS:
            raise BadSaying("a world has at most 40 sayings")
        made = self.again()
        made._sayings[saying.name()] = saying
        for hole in saying.holes():
            made._hole_names[hole] = True
        made._parts.append(("saying", saying.name()))
        return made

    def kinds(self):
        """Return a new dict from the kinds to lists of pairs: a builder and what it takes."""
        return {name: list(builders) for name, builders in self._kinds.items()}

    def operators(self):
        """Return a new dict from the operators to triples: what it takes, what it gives, its rows."""
        return {
            name: (takes, gives, list(rows))
            for name, (takes, gives, rows) in self._operators.items()
        }

    def sayings(self):
        """Return a new dict from the names of the sayings to new Sayings."""
        return {name: saying.again() for name, saying in self._sayings.items()}

    def heads(self):
        """Return a new dict from the heads to pairs: what a head takes, and the kind that it gives."""
        return dict(self._heads)

    def parts(self):
        """List pairs of "kind", "operator" or "saying" and a name, in the order in which they were added."""
        return list(self._parts)

    def kind_of(self, term, holes):
        """Return the kind of the term with these kinds of its holes, or None."""
        if not is_term(term):
            raise BadTerm("this is no term")
        if not self._are_holes(holes):
            raise BadTerm("the holes are a dict from names that are not heads to kinds")
        return term_kind(term, self._heads, holes)

    def __eq__(self, other):
        return (
            isinstance(other, World)
            and list(self._kinds.items()) == list(other._kinds.items())
            and list(self._operators.items()) == list(other._operators.items())
            and list(self._sayings.items()) == list(other._sayings.items())
        )

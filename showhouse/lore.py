"""What a world says of kinds, heads, rows and sayings, in the form in which showings ask for it.

What a step goes by is a tuple of its holes with their kinds, its givens, and its two sides.
"""

from showhouse.rows import row_holes
from showhouse.terms import is_hole, is_name, term_kind


def _by_number(things, number):
    return things[number] if number < len(things) else None


class Lore:
    """Taken from a world once; it does not change."""

    def __init__(self, world):
        self._heads = world.heads()
        self._builders = {kind: dict(builders) for kind, builders in world.kinds().items()}
        self._rows = {}
        for name, (takes, _, rows) in world.operators().items():
            self._rows[name] = [
                (dict(row_holes(left, takes, self._heads)), [], left, right) for left, right in rows
            ]
        self._by_saying = {
            name: (saying.holes(), saying.givens(), saying.left(), saying.right())
            for name, saying in world.sayings().items()
        }

    def is_head(self, name):
        """Tell whether the name is a builder or an operator."""
        return name in self._heads

    def builders_of(self, kind):
        """Return a new dict from the builders of a kind to what they take, in order."""
        return dict(self._builders[kind])

    def builder_at(self, term):
        """Return the builder that a term applies, or None if it is a hole or applies an operator."""
        if is_hole(term) or term[1] in self._rows:
            return None
        return term[1]

    def kind(self, term, holes):
        """Return the kind of a term with these kinds of its holes, or None."""
        return term_kind(term, self._heads, holes)

    def rule(self, by, held, given_pairs):
        """Return what a step goes by, or None if it does not exist."""
        if by[0] == "row":
            return _by_number(self._rows.get(by[1], []), by[2])
        if by[0] == "saying":
            return self._by_saying.get(by[1])
        if by[0] == "held":
            return _by_number(held, by[1])
        pair = _by_number(given_pairs, by[1])
        return None if pair is None else ({}, [], pair[0], pair[1])

    def rows_of(self, operator):
        """List pairs of what a step by a row goes by and that row; none if this is no operator."""
        return [(("row", operator, number), row) for number, row in enumerate(self._rows.get(operator, []))]

    def are_names(self, names):
        """Tell whether these are distinct names of operators and sayings."""
        for name in names:
            if not is_name(name) or name not in self._rows and name not in self._by_saying:
                return False
        return len(set(names)) == len(names)

    def rules(self, names):
        """List pairs of what a step goes by and its rule: rows of these operators, then sayings without givens."""
        found = []
        for operator in self._rows:
            if operator in names:
                found.extend(self.rows_of(operator))
        for name, rule in self._by_saying.items():
            if name in names and not rule[1]:
                found.append((("saying", name), rule))
        return found

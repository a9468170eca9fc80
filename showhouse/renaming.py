"""Renaming: the heads and kinds of sayings and showings of one world as they are named in another one."""

from showhouse.outlines import row_renaming
from showhouse.sayings import Saying
from showhouse.terms import is_hole


class Renaming:
    """Renames by a likeness of the parts of one world to parts of another one."""

    def __init__(self, one, other, names):
        kinds, heads = names
        self._kinds = dict(kinds)
        self._heads = dict(heads)
        rows_there = other.operators()
        self._rows = {}
        for name, (_, _, rows) in one.operators().items():
            self._rows[name] = [row_renaming(row, image) for row, image in zip(rows, rows_there[self._heads[name]][2])]

    def term(self, term):
        """Return the term with its heads renamed."""
        if is_hole(term):
            return term
        return ("of", self._heads[term[1]], tuple([self.term(part) for part in term[2]]))

    def saying(self, saying, name):
        """Return the saying under another name, with its heads and kinds renamed."""
        return Saying(
            name,
            {hole: self._kinds[kind] for hole, kind in saying.holes().items()},
            [(self.term(left), self.term(right)) for left, right in saying.givens()],
            self.term(saying.left()),
            self.term(saying.right()),
        )

    def _step(self, step, by_names):
        by, way, place, bindings, inner = step
        holes = {}
        if by[0] == "row":
            holes = self._rows[by[1]][by[2]]
            by = (by[0], self._heads[by[1]], by[2])
        elif by[0] == "saying":
            by = (by[0], by_names[by[1]])
        bindings = {holes.get(hole, hole): self.term(term) for hole, term in bindings.items()}
        return (by, way, place, bindings, tuple([self.showing(part, by_names) for part in inner]))

    def _case(self, case, by_names):
        names, part = case
        return (names, self.showing(part, by_names))

    def showing(self, showing, by_names):
        """Return the showing with its heads renamed, and with other names of the sayings by which its steps go."""
        word, about = showing[0], showing[1]
        if word == "chain":
            return (word, tuple([self._step(step, by_names) for step in about]))
        if word in ("through", "split"):
            cases = showing[2]
            return (word, about, {self._heads[builder]: self._case(cases[builder], by_names) for builder in cases})
        if word == "so":
            parts = [self.showing(part, by_names) for part in showing[3:]]
            return (word, self.term(about), self.term(showing[2]), *parts)
        return (word, about, *[self.showing(part, by_names) for part in showing[2:]])

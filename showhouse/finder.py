"""Where what a step may go by fits a term, and with which bindings."""

from showhouse.errors import TooMuch
from showhouse.terms import filled, is_big, is_hole, replaced_at

MOST_PLAIN_STEPS = 60


def places_of(term):
    """List pairs of a place in a term and the term there; a place stands ahead of the places inside it."""
    found = [((), term)]
    if not is_hole(term):
        for at, part in enumerate(term[2]):
            found.extend([((at, *place), inner) for place, inner in places_of(part)])
    return found


def _becomes(side, part, holes, found):
    """Tell whether a side becomes the part; what its holes stand for is put into `found`."""
    if is_hole(side) and side[1] in holes:
        return found.setdefault(side[1], part) == part
    if is_hole(side) or is_hole(part):
        return side == part
    return side[1] == part[1] and all([
        _becomes(inner, inner_part, holes, found) for inner, inner_part in zip(side[2], part[2])
    ])


class Finder:
    """Finds steps in terms whose holes have these kinds.

    A rule is what a step goes by, as `Lore` tells it: its holes with their kinds, its givens, and its two sides.
    """

    def __init__(self, lore, known):
        self._lore = lore
        self._known = known

    def _bindings(self, holes, side, part):
        """Return what the holes of a rule stand for, in their order, or None if the side does not fit the part."""
        found = {}
        if not _becomes(side, part, holes, found):
            return None
        for hole, kind in holes.items():
            if hole not in found or self._lore.kind(found[hole], self._known) != kind:
                return None
        return {hole: found[hole] for hole in holes}

    def step_at(self, by, rule, way, term, place, part):
        """Return a step at a place and the term that results, however large; None if the side does not fit.

        `part` is what stands at the place in the term.
        """
        holes, _, left, right = rule
        before, after = (left, right) if way == "on" else (right, left)
        bindings = self._bindings(holes, before, part)
        if bindings is None:
            return None
        return (by, way, place, bindings, ()), replaced_at(term, place, filled(after, bindings))

    def steps(self, rules, term):
        """List pairs of a step that fits and the term that results: rule by rule, first on, then back."""
        places = places_of(term)
        found = []
        for by, rule in rules:
            for way in ("on", "back"):
                for place, part in places:
                    step = self.step_at(by, rule, way, term, place, part)
                    if step is not None and not is_big(step[1]):
                        found.append(step)
        return found

    def _row_step(self, term):
        """Return the first step by a row, and the term that results; None if no row fits."""
        for place, part in places_of(term):
            if is_hole(part):
                continue
            for by, rule in self._lore.rows_of(part[1]):
                found = self.step_at(by, rule, "on", term, place, part)
                if found is not None:
                    return found
        return None

    def normal(self, term):
        """Return the normal form of a term and the steps that lead to it; raise TooMuch if that is too much."""
        steps = []
        found = self._row_step(term)
        while found is not None:
            step, term = found
            if len(steps) == MOST_PLAIN_STEPS or is_big(term):
                raise TooMuch("more than 60 steps, or a term with more than 60 holes and heads")
            steps.append(step)
            found = self._row_step(term)
        return term, steps

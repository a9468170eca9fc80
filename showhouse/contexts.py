"""Contexts: what a showing has to show, and what it may use."""

from showhouse.terms import filled, filled_pair, is_big


def _without(holes, hole):
    return {name: kind for name, kind in holes.items() if name != hole}


def _filled_pairs(pairs, bindings):
    return [filled_pair(pair, bindings) for pair in pairs]


def _filled_entry(entry, hole, part):
    """Return a held entry with a term in place of a hole, unless the hole is one of its own."""
    holes, givens, left, right = entry
    if hole in holes:
        return entry
    bindings = {hole: part}
    return holes, _filled_pairs(givens, bindings), filled(left, bindings), filled(right, bindings)


def _applied(builder, names):
    return ("of", builder, tuple([("hole", name) for name in names]))


class Context:
    """It has free and fixed holes with their kinds, held entries, pairs that are given, and a goal.

    A held entry is a tuple of its holes with their kinds, its givens, and its two sides.
    A context is never modified.
    """

    def __init__(self, free, fixed, held, given_pairs, goal):
        self.free = free
        self.fixed = fixed
        self.held = held
        self.given_pairs = given_pairs
        self.goal = goal

    def all_holes(self):
        """Return a new dict from the free and the fixed holes to their kinds."""
        return {**self.free, **self.fixed}

    def knows_hole(self, name):
        """Tell whether a hole that is free, fixed, or one of a held entry has this name."""
        return name in self.free or name in self.fixed or any([name in entry[0] for entry in self.held])

    def is_too_big(self):
        """Tell whether the goal, a given or a held entry exceeds the bound of terms."""
        pairs = [self.goal, *self.given_pairs]
        for _, givens, left, right in self.held:
            pairs.extend(givens)
            pairs.append((left, right))
        return any([is_big(left) or is_big(right) for left, right in pairs])

    def for_goal(self, goal):
        """Return the same context with another goal."""
        return Context(self.free, self.fixed, self.held, self.given_pairs, goal)

    def with_givens(self, pairs):
        """Return the context with these pairs after all givens."""
        return Context(self.free, self.fixed, self.held, self.given_pairs + pairs, self.goal)

    def kind_for(self, word, hole):
        """Return the kind of a hole that can be gone `through` or `split`, or None."""
        return (self.free if word == "through" else self.all_holes()).get(hole)

    def _again(self, hole, name, free):
        """Return the held entry for the new name of a case of an induction."""
        bindings = {hole: ("hole", name)}
        left, right = filled_pair(self.goal, bindings)
        return free, _filled_pairs(self.given_pairs, bindings), left, right

    def in_case(self, word, hole, builder, names):
        """Return the context of a case of `through` or `split`; `names` maps the new names to their kinds."""
        if word == "through":
            return self._in_through(hole, builder, names)
        return self._in_split(hole, builder, names)

    def _in_through(self, hole, builder, names):
        free = _without(self.free, hole)
        more = [self._again(hole, name, free) for name, kind in names.items() if kind == self.free[hole]]
        bindings = {hole: _applied(builder, names)}
        return Context(
            free,
            {**self.fixed, **names},
            self.held + more,
            _filled_pairs(self.given_pairs, bindings),
            filled_pair(self.goal, bindings),
        )

    def _in_split(self, hole, builder, names):
        part = _applied(builder, names)
        return Context(
            _without(self.free, hole),
            {**_without(self.fixed, hole), **names},
            [_filled_entry(entry, hole, part) for entry in self.held],
            _filled_pairs(self.given_pairs, {hole: part}),
            filled_pair(self.goal, {hole: part}),
        )


def context_of(saying):
    """Return the context in which a saying is shown."""
    return Context(saying.holes(), {}, [], saying.givens(), (saying.left(), saying.right()))

"""The names in what is judged, and what a world states about names."""

from showhouse.rows import row_holes
from showhouse.terms import subterms


def _in_terms(terms):
    return [part[1] for term in terms for part in subterms(term)]


def inner_showings(showing):
    """List the showings directly inside a showing."""
    word = showing[0]
    if word == "chain":
        return [part for step in showing[1] for part in step[4]]
    if word in ("through", "split"):
        return [part for _, part in showing[2].values()]
    return list(showing[2:]) if word == "peel" else list(showing[3:])


def all_showings(showing):
    """List a showing and all showings inside it."""
    found = [showing]
    for part in inner_showings(showing):
        found.extend(all_showings(part))
    return found


def said_names(showing):
    """List the names of the sayings by which steps of a showing go, steps of inner showings included."""
    steps = [step for part in all_showings(showing) if part[0] == "chain" for step in part[1]]
    return [step[0][1] for step in steps if step[0][0] == "saying"]


def case_names(showing):
    """List the names that the cases of a showing give to holes, those of inner showings included."""
    cases = [case for part in all_showings(showing) if part[0] in ("through", "split") for case in part[2].values()]
    return [name for names, _ in cases for name in names]


def _in_step(step):
    by, _, _, bindings, _ = step
    names = [by[1]] if by[0] in ("row", "saying") else []
    return names + list(bindings) + _in_terms(list(bindings.values()))


def _directly_in(showing):
    """List the names in a showing, apart from the showings inside it and the names of their holes."""
    word = showing[0]
    if word == "chain":
        return [name for step in showing[1] for name in _in_step(step)]
    if word in ("through", "split"):
        return [showing[1], *showing[2]]
    if word == "so":
        return _in_terms(showing[1:3])
    return []


def names_in(saying, showing):
    """List the names in a saying and in a showing of it."""
    names = []
    for hole, kind in saying.holes().items():
        names.extend([hole, kind])
    for left, right in saying.givens():
        names.extend(_in_terms([left, right]))
    names.extend(_in_terms([saying.left(), saying.right()]))
    for part in all_showings(showing):
        names.extend(_directly_in(part))
    return names + case_names(showing)


def statements(world):
    """Return a new dict from each name about which the world states something to a list of what it states."""
    found = {}
    heads = world.heads()
    for kind, builders in world.kinds().items():
        found.setdefault(kind, []).append(("kind", builders))
        for builder, _ in builders:
            found.setdefault(builder, []).append(("builder", kind, builders))
    for name, (takes, gives, rows) in world.operators().items():
        # The rows may stay the same and their holes have other kinds nevertheless.
        holes = [row_holes(left, takes, heads) for left, _ in rows]
        found.setdefault(name, []).append(("operator", takes, gives, rows, holes))
    for name, saying in world.sayings().items():
        parts = ("saying", list(saying.holes().items()), saying.givens(), saying.left(), saying.right())
        found.setdefault(name, []).append(parts)
    return found

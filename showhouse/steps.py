"""Steps: how one step transforms a term, or why it does not."""

from showhouse.terms import filled, filled_pair, is_big, part_at, replaced_at


def _are_bound(lore, holes, bindings, known):
    """Tell whether the bindings are for exactly these holes, and are terms of their kinds."""
    return set(list(bindings)) == set(list(holes)) and all([
        lore.kind(bindings[hole], known) == kind for hole, kind in holes.items()
    ])


def taken_step(lore, context, term, step):
    """Return a reason or None, the new term, and the goals of the inner showings."""
    by, way, place, bindings, inner = step
    rule = lore.rule(by, context.held, context.given_pairs)
    if rule is None:
        return "by", term, []
    holes, givens, left, right = rule
    if not _are_bound(lore, holes, bindings, context.all_holes()):
        return "bindings", term, []
    part = part_at(term, place)
    if part is None:
        return "place", term, []
    before, after = (left, right) if way == "on" else (right, left)
    if part != filled(before, bindings):
        return "side", term, []
    if len(inner) != len(givens):
        return "inner", term, []
    made = replaced_at(term, place, filled(after, bindings))
    if is_big(made):
        return "big", term, []
    return None, made, [filled_pair(given, bindings) for given in givens]

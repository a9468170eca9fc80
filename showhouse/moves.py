"""What showings need in a context, apart from their steps, or why they are not possible there."""


def is_new(lore, context, name):
    """Tell whether a case may give this name to a hole."""
    return not lore.is_head(name) and not context.knows_hole(name)


def _builders_of_given(lore, context, number):
    left, right = context.given_pairs[number]
    return lore.builder_at(left), lore.builder_at(right)


def peel_fault(lore, context, number):
    """Return the reason why the given with this number cannot be peeled, or None."""
    if number >= len(context.given_pairs):
        return "given"
    left, right = _builders_of_given(lore, context, number)
    return "builders" if left is None or left != right else None


def peeled(context, number):
    """Return the context with the pairs of arguments of a given that can be peeled after all givens."""
    left, right = context.given_pairs[number]
    return context.with_givens(list(zip(left[2], right[2])))


def never_fault(lore, context, number):
    """Return the reason why the given with this number is possible, or None."""
    if number >= len(context.given_pairs):
        return "given"
    left, right = _builders_of_given(lore, context, number)
    return "builders" if left is None or right is None or left == right else None


def so_fault(lore, context, left, right):
    """Return the reason why these two cannot be sides of a pair, or None."""
    kind = lore.kind(left, context.all_holes())
    return "kinds" if kind is None or kind != lore.kind(right, context.all_holes()) else None

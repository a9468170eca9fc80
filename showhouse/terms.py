"""Names, numbers and terms, as far as no world is needed to tell what they are."""

MOST_LETTERS = 8
MOST_NODES = 60


def is_name(value):
    """Tell whether the value is a string of 1 to 8 lowercase letters."""
    return (
        isinstance(value, str)
        and 1 <= len(value) <= MOST_LETTERS
        and value.isascii()
        and value.isalpha()
        and value.islower()
    )


def is_number(value, most):
    """Tell whether the value is an integer from 0 to `most`."""
    return isinstance(value, int) and not isinstance(value, bool) and 0 <= value <= most


def _is_hole_pair(value):
    return len(value) == 2 and value[0] == "hole" and is_name(value[1])


def _is_of_triple(value):
    return len(value) == 3 and value[0] == "of" and is_name(value[1]) and isinstance(value[2], tuple)


def is_term(value):
    """Tell whether the value is a term with at most 60 holes and heads."""
    # A loop that stops at the bound, because a value from outside may be nested without limit.
    waiting = [value]
    nodes = 0
    while waiting:
        part = waiting.pop()
        nodes += 1
        if nodes > MOST_NODES or not isinstance(part, tuple):
            return False
        if _is_of_triple(part):
            waiting.extend(part[2])
        elif not _is_hole_pair(part):
            return False
    return True


def is_term_pair(value):
    """Tell whether the value is a pair of terms."""
    return isinstance(value, tuple) and len(value) == 2 and is_term(value[0]) and is_term(value[1])


def is_hole(term):
    """Tell whether a term is a hole."""
    return term[0] == "hole"


def subterms(term):
    """List the term and all terms inside it, outer ones first, from left to right."""
    found = [term]
    if not is_hole(term):
        for part in term[2]:
            found.extend(subterms(part))
    return found


def term_kind(term, heads, holes):
    """Return the kind of a term, or None.

    `heads` maps each head to a pair of what it takes and the kind that it gives;
    `holes` maps names to kinds.
    """
    if is_hole(term):
        return holes.get(term[1])
    if term[1] not in heads:
        return None
    takes, gives = heads[term[1]]
    kinds = [term_kind(part, heads, holes) for part in term[2]]
    return gives if kinds == list(takes) else None


def node_count(term):
    """Return how many holes and heads a term has."""
    return len(subterms(term))


def is_big(term):
    """Tell whether what was put together from terms has too many holes and heads to be a term."""
    return node_count(term) > MOST_NODES


def filled(term, bindings):
    """Return the term with terms in place of the holes of these names, all at once."""
    if is_hole(term):
        return bindings.get(term[1], term)
    return ("of", term[1], tuple([filled(part, bindings) for part in term[2]]))


def filled_pair(pair, bindings):
    """Return the pair of terms with terms in place of the holes of these names."""
    left, right = pair
    return (filled(left, bindings), filled(right, bindings))


def part_at(term, place):
    """Return the term at a place, or None if the place is not in the term."""
    for at in place:
        if is_hole(term) or at >= len(term[2]):
            return None
        term = term[2][at]
    return term


def replaced_at(term, place, part):
    """Return the term with another term at one of its places."""
    if not place:
        return part
    parts = list(term[2])
    parts[place[0]] = replaced_at(parts[place[0]], place[1:], part)
    return ("of", term[1], tuple(parts))

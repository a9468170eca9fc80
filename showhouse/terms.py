"""Names and terms, as far as no world is needed to tell what they are."""

MOST_LETTERS = 8
MOST_NODES = 60


def is_name(value):
    """Tell whether the value is a string of 1 to 8 lowercase letters."""
    return (
        isinstance(value, str)
        and 1 <= len(value) <= MOST_LETTERS
        and value.isascii()
        and value.isalpha()
        and value.islower()
    )


def _is_hole_pair(value):
    return len(value) == 2 and value[0] == "hole" and is_name(value[1])


def _is_of_triple(value):
    return len(value) == 3 and value[0] == "of" and is_name(value[1]) and isinstance(value[2], tuple)


def is_term(value):
    """Tell whether the value is a term with at most 60 holes and heads."""
    # A loop that stops at the bound, because a value from outside may be nested without limit.
    waiting = [value]
    nodes = 0
    while waiting:
        part = waiting.pop()
        nodes += 1
        if nodes > MOST_NODES or not isinstance(part, tuple):
            return False
        if _is_of_triple(part):
            waiting.extend(part[2])
        elif not _is_hole_pair(part):
            return False
    return True


def is_term_pair(value):
    """Tell whether the value is a pair of terms."""
    return isinstance(value, tuple) and len(value) == 2 and is_term(value[0]) and is_term(value[1])


def is_hole(term):
    """Tell whether a term is a hole."""
    return term[0] == "hole"


def subterms(term):
    """List the term and all terms inside it, outer ones first, from left to right."""
    found = [term]
    if not is_hole(term):
        for part in term[2]:
            found.extend(subterms(part))
    return found


def term_kind(term, heads, holes):
    """Return the kind of a term, or None.

    `heads` maps each head to a pair of what it takes and the kind that it gives;
    `holes` maps names to kinds.
    """
    if is_hole(term):
        return holes.get(term[1])
    if term[1] not in heads:
        return None
    takes, gives = heads[term[1]]
    kinds = [term_kind(part, heads, holes) for part in term[2]]
    return gives if kinds == list(takes) else None

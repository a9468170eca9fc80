"""Showings: what is constructed as one, whatever it shows."""

from showhouse.terms import is_name, is_number, is_term

MOST_STEPS = 60
MOST_NESTED = 12
MOST_NUMBER = 999


def is_by(value):
    """Tell whether this is what a step goes by."""
    if not isinstance(value, tuple) or len(value) not in (2, 3):
        return False
    if len(value) == 3:
        return value[0] == "row" and is_name(value[1]) and is_number(value[2], MOST_NUMBER)
    if value[0] == "saying":
        return is_name(value[1])
    return value[0] in ("held", "given") and is_number(value[1], MOST_NUMBER)


def is_place(value):
    """Tell whether this is a tuple of numbers."""
    return isinstance(value, tuple) and all([is_number(at, MOST_NUMBER) for at in value])


def _are_bindings(value):
    return isinstance(value, dict) and all([is_name(hole) and is_term(term) for hole, term in value.items()])


def _is_step(value, depth):
    """Tell whether this is a step of a showing that is nested this deep."""
    if not isinstance(value, tuple) or len(value) != 5:
        return False
    by, way, place, bindings, inner = value
    return (
        is_by(by)
        and way in ("on", "back")
        and is_place(place)
        and _are_bindings(bindings)
        and isinstance(inner, tuple)
        and all([_is_showing_at(part, depth + 1) for part in inner])
    )


def _is_case(value, depth):
    return (
        isinstance(value, tuple)
        and len(value) == 2
        and isinstance(value[0], tuple)
        and all([is_name(name) for name in value[0]])
        and _is_showing_at(value[1], depth)
    )


def _is_chain(parts, depth):
    return (
        len(parts) == 1
        and isinstance(parts[0], tuple)
        and len(parts[0]) <= MOST_STEPS
        and all([_is_step(step, depth) for step in parts[0]])
    )


def _is_by_cases(parts, depth):
    return (
        len(parts) == 2
        and is_name(parts[0])
        and isinstance(parts[1], dict)
        and all([is_name(builder) and _is_case(case, depth + 1) for builder, case in parts[1].items()])
    )


def _is_peel(parts, depth):
    return len(parts) == 2 and is_number(parts[0], MOST_NUMBER) and _is_showing_at(parts[1], depth + 1)


def _is_never(parts, _):
    return len(parts) == 1 and is_number(parts[0], MOST_NUMBER)


def _is_so(parts, depth):
    return (
        len(parts) == 4
        and is_term(parts[0])
        and is_term(parts[1])
        and _is_showing_at(parts[2], depth + 1)
        and _is_showing_at(parts[3], depth + 1)
    )


_FORMS = {
    "chain": _is_chain,
    "through": _is_by_cases,
    "split": _is_by_cases,
    "peel": _is_peel,
    "never": _is_never,
    "so": _is_so,
}


def _is_showing_at(value, depth):
    """Tell whether the value is a showing that may be nested this deep."""
    if depth > MOST_NESTED or not isinstance(value, tuple) or not value:
        return False
    word = value[0]
    if not isinstance(word, str) or word not in _FORMS:
        return False
    form = _FORMS[word]
    return form(value[1:], depth)


def is_showing(value):
    """Tell whether the value is a showing, wherever its parts would be judged."""
    return _is_showing_at(value, 1)

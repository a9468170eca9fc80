"""Roads: what is constructed as one, wherever it would lead."""

from showhouse.showings import MOST_NESTED, MOST_NUMBER, is_by, is_place
from showhouse.terms import is_name, is_number, is_term

MOST_CHOICES = 8
MOST_SOUGHT = 6


def _are_roads(value, depth):
    return isinstance(value, tuple) and all([_is_road_at(part, depth) for part in value])


def _is_alone(parts, _):
    return not parts


def _is_seek(parts, _):
    return (
        len(parts) == 2
        and isinstance(parts[0], tuple)
        and all([is_name(name) for name in parts[0]])
        and is_number(parts[1], MOST_SOUGHT)
    )


def _is_by_cases(parts, depth):
    return len(parts) == 2 and is_name(parts[0]) and _are_roads(parts[1], depth + 1)


def _is_peel(parts, depth):
    return len(parts) == 2 and is_number(parts[0], MOST_NUMBER) and _is_road_at(parts[1], depth + 1)


def _is_never(parts, _):
    return len(parts) == 1 and is_number(parts[0], MOST_NUMBER)


def _is_so(parts, depth):
    return len(parts) == 4 and is_term(parts[0]) and is_term(parts[1]) and _are_roads(parts[2:], depth + 1)


def _is_lean(parts, depth):
    return (
        len(parts) == 4
        and is_by(parts[0])
        and parts[1] in ("on", "back")
        and is_place(parts[2])
        and _is_road_at(parts[3], depth + 1)
    )


def _is_first(parts, depth):
    return len(parts) == 1 and _are_roads(parts[0], depth + 1) and 1 <= len(parts[0]) <= MOST_CHOICES


_FORMS = {
    "plain": _is_alone,
    "seek": _is_seek,
    "through": _is_by_cases,
    "split": _is_by_cases,
    "peel": _is_peel,
    "never": _is_never,
    "so": _is_so,
    "lean": _is_lean,
    "first": _is_first,
    "open": _is_alone,
}


def _is_road_at(value, depth):
    """Tell whether the value is a road that may be nested this deep."""
    if depth > MOST_NESTED or not isinstance(value, tuple) or not value:
        return False
    word = value[0]
    if not isinstance(word, str) or word not in _FORMS:
        return False
    form = _FORMS[word]
    return form(value[1:], depth)


def is_road(value):
    """Tell whether the value is a road, whatever it shows."""
    return _is_road_at(value, 1)

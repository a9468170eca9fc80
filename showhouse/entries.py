"""Entries of books, as far as no world is needed to tell what they are."""

from showhouse.errors import BadEntry
from showhouse.roadforms import is_road
from showhouse.sayings import Saying
from showhouse.showings import is_showing
from showhouse.terms import is_name, is_term_pair

MOST_ENTRIES = 30


def _are_names(value):
    return isinstance(value, tuple) and all([is_name(name) for name in value])


def _is_builder(value):
    return isinstance(value, tuple) and len(value) == 2 and is_name(value[0]) and _are_names(value[1])


def _is_kind(parts):
    return (
        len(parts) == 2
        and is_name(parts[0])
        and isinstance(parts[1], list)
        and all([_is_builder(builder) for builder in parts[1]])
    )


def _is_operator(parts):
    return (
        len(parts) == 4
        and is_name(parts[0])
        and _are_names(parts[1])
        and is_name(parts[2])
        and isinstance(parts[3], list)
        and all([is_term_pair(row) for row in parts[3]])
    )


def _are_means(value):
    if isinstance(value, tuple) and len(value) == 2 and value[0] == "road":
        return is_road(value[1])
    return is_showing(value)


def _is_say(parts):
    return len(parts) == 2 and isinstance(parts[0], Saying) and _are_means(parts[1])


_FORMS = {
    "kind": _is_kind,
    "operator": _is_operator,
    "say": _is_say,
}


def is_entry(value):
    """Tell whether the value is an entry, whether or not a world accepts it."""
    if not isinstance(value, tuple) or not value:
        return False
    word = value[0]
    if not isinstance(word, str) or word not in _FORMS:
        return False
    form = _FORMS[word]
    return form(value[1:])


def entry_name(entry):
    """Return the name of an entry."""
    return entry[1].name() if entry[0] == "say" else entry[1]


def check_entries(entries):
    """Raise BadEntry unless this is a list of at most 30 entries with distinct names."""
    if not isinstance(entries, list):
        raise BadEntry(0)
    names = set()
    for at, entry in enumerate(entries):
        if at == MOST_ENTRIES or not is_entry(entry) or entry_name(entry) in names:
            raise BadEntry(at)
        names.add(entry_name(entry))

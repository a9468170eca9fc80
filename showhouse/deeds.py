"""Deeds: what becomes of the entries of a book."""

from showhouse.entries import MOST_ENTRIES, entry_name, is_entry
from showhouse.errors import BadEntry, BadName, BadSize, TooMuch
from showhouse.terms import is_number


def _check_entry(entry):
    if not is_entry(entry):
        raise BadEntry(0)


def _check_new_name(entries, entry):
    if entry_name(entry) in [entry_name(other) for other in entries]:
        raise BadName("there is an entry of this name")


def _place_of(entries, name):
    """Return the place of the entry of this name; raise BadName if there is none."""
    for at, entry in enumerate(entries):
        if entry_name(entry) == name:
            return at
    raise BadName("there is no entry of this name")


def _put(entries, deed):
    _, entry, at = deed
    _check_entry(entry)
    if at is not None and not is_number(at, len(entries)):
        raise BadSize("the place is an integer from 0 to the number of entries")
    _check_new_name(entries, entry)
    if len(entries) == MOST_ENTRIES:
        raise TooMuch("a book has at most 30 entries")
    place = len(entries) if at is None else at
    return entries[:place] + [entry] + entries[place:]


def _take(entries, deed):
    at = _place_of(entries, deed[1])
    return entries[:at] + entries[at + 1:]


def _change(entries, deed):
    _, name, entry = deed
    at = _place_of(entries, name)
    _check_entry(entry)
    others = entries[:at] + entries[at + 1:]
    _check_new_name(others, entry)
    return entries[:at] + [entry] + entries[at + 1:]


_DEEDS = {
    "put": _put,
    "take": _take,
    "change": _change,
}
_COUNTS = {
    "put": 3,
    "take": 2,
    "change": 3,
}


def _is_deed(value):
    if not isinstance(value, tuple) or not value:
        return False
    word = value[0]
    return isinstance(word, str) and word in _COUNTS and len(value) == _COUNTS[word]


def are_deeds(value):
    """Tell whether the value is a list of deeds, by their words and numbers of elements."""
    return isinstance(value, list) and all([_is_deed(deed) for deed in value])


def performed(entries, deeds):
    """Return the entries behind these deeds, one after the other; raise the error of the first that is rejected."""
    for deed in deeds:
        perform = _DEEDS[deed[0]]
        entries = perform(entries, deed)
    return entries

"""Copies, so that nobody changes from outside what somebody else keeps."""

from showhouse.sayings import Saying


def copied(value):
    """Return the value with new lists, dicts and sayings in it."""
    # Terms stay as they are: they have nothing of this in them, and may be nested deeply.
    if isinstance(value, Saying):
        return value.again()
    if isinstance(value, list):
        return [copied(part) for part in value]
    if isinstance(value, dict):
        return {name: copied(part) for name, part in value.items()}
    if isinstance(value, tuple) and value[:1] not in (("hole",), ("of",)):
        return tuple([copied(part) for part in value])
    return value

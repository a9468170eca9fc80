"""Evaluation: from terms without holes to worths."""

from showhouse.errors import TooMuch
from showhouse.terms import MOST_NODES, is_hole, node_count, subterms

MOST_USES = 2000


def _column(left):
    """Return the index of the argument of a left term that is no hole, or None."""
    for at, part in enumerate(left[2]):
        if not is_hole(part):
            return at
    return None


def _rows_by_builder(rows):
    """Return the column of the rows, and a dict from the builders there to the rows.

    An operator without a column has a single row, under the key None.
    """
    column = _column(rows[0][0])
    if column is None:
        return None, {None: rows[0]}
    return column, {left[2][column][1]: (left, right) for left, right in rows}


def _sized(worth):
    return worth, node_count(worth)


def _matched(left, parts):
    """Return a dict from the holes of a left term to what stands in their places, with sizes."""
    found = {}
    for pattern, part in zip(left[2], parts):
        if is_hole(pattern):
            found[pattern[1]] = part
        else:
            for inner, worth in zip(pattern[2], part[0][2]):
                found[inner[1]] = _sized(worth)
    return found


def _built(head, parts):
    """Return the worth that a builder makes of worths, with its size."""
    size = 1 + sum([part_size for _, part_size in parts])
    if size > MOST_NODES:
        raise TooMuch("a worth has more than 60 heads")
    return ("of", head, tuple([worth for worth, _ in parts])), size


def _check_filled(right, known):
    """Raise TooMuch if a right term has too many heads once worths have replaced its holes."""
    size = sum([known[part[1]][1] if is_hole(part) else 1 for part in subterms(right)])
    if size > MOST_NODES:
        raise TooMuch("a right term has more than 60 heads")


class Reckoner:
    """Evaluates terms of one world."""

    def __init__(self, world):
        self._rows = {name: _rows_by_builder(parts[2]) for name, parts in world.operators().items()}

    def _used(self, head, parts):
        """Return the right term of the row that matches these worths, and what its holes stand for."""
        column, rows = self._rows[head]
        left, right = rows[None if column is None else parts[column][0][1]]
        known = _matched(left, parts)
        _check_filled(right, known)
        return right, known

    def worth_of(self, term):
        """Return the worth of a term that has a kind and no holes; raise TooMuch if that is too much."""
        # The uses of rows may nest far deeper than calls should: what is yet to be done is kept in a list.
        # Holes stand for worths, together with their sizes; `ready` says that the arguments are in `done`.
        uses = 0
        waiting = [(term, {}, False)]
        done = []
        while waiting:
            part, known, ready = waiting.pop()
            if is_hole(part):
                done.append(known[part[1]])
            elif not ready:
                waiting.append((part, known, True))
                waiting.extend([(inner, known, False) for inner in reversed(part[2])])
            else:
                start = len(done) - len(part[2])
                parts = done[start:]
                del done[start:]
                if part[1] not in self._rows:
                    done.append(_built(part[1], parts))
                    continue
                uses += 1
                if uses > MOST_USES:
                    raise TooMuch("more than 2000 uses of rows")
                right, known = self._used(part[1], parts)
                waiting.append((right, known, False))
        return done[0][0]

"""The rows of an operator: which ones a world takes, and the kinds of their holes."""

from showhouse.errors import BadOperator
from showhouse.terms import is_hole, is_term_pair, subterms, term_kind


def row_holes(left, takes, heads):
    """List pairs of each hole of a left term and the kind of its place, from left to right."""
    found = []
    for part, kind in zip(left[2], takes):
        if is_hole(part):
            found.append((part[1], kind))
        else:
            inner_takes, _ = heads[part[1]]
            found.extend([(inner[1], inner_kind) for inner, inner_kind in zip(part[2], inner_takes)])
    return found


def _columns(left):
    return [at for at, part in enumerate(left[2]) if not is_hole(part)]


def _shared_column(name, takes, lefts):
    """Return the column at which the left terms have builders, or None if they have holes only."""
    for left in lefts:
        if is_hole(left) or left[1] != name or len(left[2]) != len(takes):
            raise BadOperator("a left term applies the operator itself to what it takes")
        if len(_columns(left)) > 1:
            raise BadOperator("at most one argument of a left term is not a hole")
        if _columns(left) != _columns(lefts[0]):
            raise BadOperator("the column is the same in all rows")
    columns = _columns(lefts[0])
    return columns[0] if columns else None


def _check_builders_at(column, lefts, builders):
    """Raise BadOperator unless the left terms have each of the builders once at the column."""
    takes = dict(builders)
    parts = [left[2][column] for left in lefts]
    if sorted([part[1] for part in parts]) != sorted(list(takes)):
        raise BadOperator("there is one row for each builder of the kind at the column")
    for part in parts:
        if len(part[2]) != len(takes[part[1]]) or not all([is_hole(inner) for inner in part[2]]):
            raise BadOperator("the builder at the column is applied to as many holes as it takes")


def _check_hole_names(name, names, heads):
    """Raise BadOperator unless these may be the holes of one row of the operator."""
    if len(set(names)) != len(names):
        raise BadOperator("the holes of a left term are distinct")
    if name in names or any([hole in heads for hole in names]):
        raise BadOperator("a hole of a row has the name of a head")


def _check_descent(name, column, left, right):
    """Raise BadOperator unless the operator calls itself only on what is inside the builder."""
    smaller = [] if column is None else list(left[2][column][2])
    for part in subterms(right):
        if is_hole(part) or part[1] != name:
            continue
        # That the hole has the kind of the column follows from the right term having a kind.
        if column is None or part[2][column] not in smaller:
            raise BadOperator("the operator itself is applied to a part of its builder only")


def check_rows(name, takes, gives, rows, kinds, heads):
    """Raise BadOperator unless these are rows of such an operator.

    `kinds` maps each kind to the pairs of its builders, `heads` each head that is there
    already to a pair of what it takes and the kind that it gives.
    """
    if not isinstance(rows, list) or not all([is_term_pair(row) for row in rows]):
        raise BadOperator("the rows are a list of pairs of terms")
    if not rows:
        raise BadOperator("an operator has rows")
    lefts = [left for left, right in rows]
    column = _shared_column(name, takes, lefts)
    if column is not None:
        _check_builders_at(column, lefts, kinds[takes[column]])
    elif len(rows) > 1:
        raise BadOperator("there is one row if there are only holes")
    known = {**heads, name: (takes, gives)}
    for left, right in rows:
        holes = row_holes(left, takes, heads)
        _check_hole_names(name, [hole for hole, kind in holes], heads)
        if term_kind(right, known, dict(holes)) != gives:
            raise BadOperator("a right term has the kind that the operator gives")
        _check_descent(name, column, left, right)

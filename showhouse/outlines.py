"""Outlines of the kinds and operators of a world: what stays the same when names change."""

from showhouse.terms import is_hole, subterms


def _hole_names(left):
    """List the holes of a left term from left to right."""
    return [part[1] for part in subterms(left) if is_hole(part)]


def row_renaming(row, other):
    """Return a dict from the holes of a row to those of another one whose left term has the same form."""
    return dict(zip(_hole_names(row[0]), _hole_names(other[0])))


class Outline:
    """What a kind or an operator is like, apart from names.

    `form` is a text in which other kinds and operators are told by numbers: `others` lists them in the order
    in which they first occur. A kind or operator is a pair of a word and a name.
    """

    def __init__(self, thing):
        self.form = thing[0]
        self.others = []
        self._thing = thing

    def _number(self, thing):
        if thing == self._thing:
            return "self"
        if thing not in self.others:
            self.others.append(thing)
        return str(self.others.index(thing))

    def _kinds(self, kinds):
        return ",".join([self._number(("kind", kind)) for kind in kinds])

    def add_kinds(self, kinds):
        """Go on with these kinds, and with how many they are."""
        self.form = f"{self.form};{self._kinds(kinds)}"

    def _told(self, term, holes, builders):
        if is_hole(term):
            return f"hole {holes.index(term[1])}"
        if term[1] in builders:
            kind, at = builders[term[1]]
            number = self._number(("kind", kind))
            head = f"{at} of {number}"
        else:
            head = self._number(("operator", term[1]))
        parts = ",".join([self._told(part, holes, builders) for part in term[2]])
        return f"{head} ({parts})"

    def add_row(self, row, builders):
        """Go on with a row; `builders` maps each builder to its kind and its index there."""
        left, right = row
        holes = _hole_names(left)
        self.form = f"{self.form};{self._told(left, holes, builders)} = {self._told(right, holes, builders)}"


def outlines_of(world):
    """Return a dict from the kinds and operators of a world, kinds first, to their outlines."""
    found = {}
    places = {}
    for kind, builders in world.kinds().items():
        outline = Outline(("kind", kind))
        for at, (builder, takes) in enumerate(builders):
            places[builder] = (kind, at)
            outline.add_kinds(takes)
        found[("kind", kind)] = outline
    for name, (takes, gives, rows) in world.operators().items():
        outline = Outline(("operator", name))
        outline.add_kinds(takes)
        outline.add_kinds((gives,))
        for row in rows:
            outline.add_row(row, places)
        found[("operator", name)] = outline
    return found

"""Transfer: the sayings of a book that hold, led over to another book whose world has like parts."""

from showhouse.books import Book
from showhouse.copies import copied
from showhouse.entries import MOST_ENTRIES, entry_name
from showhouse.errors import BadName
from showhouse.matches import first_match, is_match
from showhouse.outlines import outlines_of
from showhouse.renaming import Renaming
from showhouse.statements import case_names
from showhouse.terms import is_name


class Led:
    """The other book with what was led over, and the names that steps use there."""

    def __init__(self, there, by_names):
        self.there = there
        self.by_names = copied(by_names)


class Lame:
    """The name of the first saying that cannot be led over."""

    def __init__(self, called):
        self.called = called


def _builder_names(one, other, kinds):
    """Return a dict from the builders of one world to those that have the same places in the images of their kinds."""
    there = other.kinds()
    found = {}
    for kind, builders in one.kinds().items():
        for (builder, _), (image, _) in zip(builders, there[kinds[kind]]):
            found[builder] = image
    return found


def likeness(one, other):
    """Return the first pair of dicts by which the parts of one world are like parts of the other one, or None."""
    found = first_match(outlines_of(one), outlines_of(other))
    if found is None:
        return None
    kinds = {name: there[1] for (word, name), there in found.items() if word == "kind"}
    operators = {name: there[1] for (word, name), there in found.items() if word == "operator"}
    return kinds, {**_builder_names(one, other, kinds), **operators}


def _is_renaming(value, names):
    """Tell whether the value is a dict that maps exactly these names to distinct names."""
    if not isinstance(value, dict) or set(list(value)) != set(list(names)):
        return False
    images = list(value.values())
    return all([is_name(image) for image in images]) and len(set(images)) == len(images)


def _are_names(one, other, names):
    """Tell whether the parts of one world are like parts of the other one by these names."""
    if not isinstance(names, tuple) or len(names) != 2:
        return False
    kinds, heads = names
    if not _is_renaming(kinds, one.kinds()) or not _is_renaming(heads, one.heads()):
        return False
    found = {("kind", kind): ("kind", image) for kind, image in kinds.items()}
    for name in one.operators():
        found[("operator", name)] = ("operator", heads[name])
    if not is_match(outlines_of(one), outlines_of(other), found):
        return False
    return all([heads[builder] == image for builder, image in _builder_names(one, other, kinds).items()])


def _same_parts(saying, other):
    """Tell whether two sayings are equal apart from their names."""
    return (
        list(saying.holes().items()) == list(other.holes().items())
        and saying.givens() == other.givens()
        and saying.left() == other.left()
        and saying.right() == other.right()
    )


class Leader:
    """Leads sayings over, one after the other."""

    def __init__(self, book, there, names):
        world = there.whole()
        self._book = book
        self._renaming = Renaming(book.whole(), world, names)
        self._heads = world.heads()
        self._sayings = list(world.sayings().values())
        self._entries = there.entries()
        self.by_names = {}

    def _new_name(self, name):
        taken = [entry_name(entry) for entry in self._entries]
        while name in taken:
            name = name + "x"
        return name

    def _name_there(self, saying):
        """Return the name of the first saying there that states the same, or None."""
        for other in self._sayings:
            if _same_parts(saying, other):
                return other.name()
        return None

    def lead(self, saying):
        """Lead one saying over; tell whether that is possible."""
        name = saying.name()
        made = self._renaming.saying(saying, name)
        known = self._name_there(made)
        if known is not None:
            self.by_names[name] = known
            return True
        showing = self._renaming.showing(self._book.showing(name), self.by_names)
        new_name = self._new_name(name)
        holes = list(made.holes()) + case_names(showing)
        if len(self._entries) == MOST_ENTRIES or not is_name(new_name) or any([hole in self._heads for hole in holes]):
            return False
        self.by_names[name] = new_name
        made = self._renaming.saying(saying, new_name)
        self._sayings.append(made)
        self._entries.append(("say", made, showing))
        return True

    def book(self):
        """Return the other book with all that was led over."""
        return Book(self._entries)


def led(book, there, names):
    """Lead the sayings of a book that hold over to another book by names of its parts; return a Led or a Lame."""
    if not _are_names(book.whole(), there.whole(), names):
        raise BadName("the parts are not like parts of the other world by these names")
    leader = Leader(book, there, names)
    sayings = book.whole().sayings()
    for name, state in book.states():
        if state == "holds" and not leader.lead(sayings[name]):
            return Lame(name)
    return Led(leader.book(), leader.by_names)

"""Normal forms, and the steps that fit a term."""

from showhouse.errors import BadName, BadTerm
from showhouse.finder import Finder
from showhouse.lore import Lore


def plain(world, term, holes):
    """Return the normal form of a term, and a new list of the steps that lead to it."""
    if world.kind_of(term, holes) is None:
        raise BadTerm("the term has no kind")
    return Finder(Lore(world), holes).normal(term)


def check_names(lore, names):
    """Raise BadName unless these are a list or tuple of distinct operators and sayings."""
    if not isinstance(names, (list, tuple)) or not lore.are_names(names):
        raise BadName("the names are a list or tuple of distinct operators and sayings")


def fitting(world, names, term, holes):
    """Return a new list of the steps that fit a term, by rows of these operators and by these sayings."""
    lore = Lore(world)
    check_names(lore, names)
    if world.kind_of(term, holes) is None:
        raise BadTerm("the term has no kind")
    return [step for step, _ in Finder(lore, holes).steps(lore.rules(names), term)]

"""Books: entries in order, the worlds that result from them, and what is shown of their sayings."""

from showhouse.copies import copied
from showhouse.entries import check_entries, entry_name
from showhouse.errors import BadKind, BadName, BadOperator, BadSaying
from showhouse.judge import Slip, judged
from showhouse.roads import Left, run_road
from showhouse.statements import names_in, said_names, statements
from showhouse.terms import is_name
from showhouse.worlds import World


def _with_entry(world, entry):
    """Return the world with an entry, or None if the world does not accept it."""
    try:
        if entry[0] == "kind":
            return world.with_kind(entry[1], entry[2])
        if entry[0] == "operator":
            return world.with_operator(entry[1], entry[2], entry[3], entry[4])
        return world.with_saying(entry[1])
    except (BadKind, BadOperator, BadSaying):
        return None


def _has_road(entry):
    return entry[2][0] == "road"


class Verdict:
    """What was found when a saying was judged: a slip, or goals that remain, or what its road made; else None."""

    def __init__(self, fault, goals, made):
        self.fault = fault
        self.goals = goals
        self.made = made


def _verdict(world, entry):
    _, saying, means = entry
    if not _has_road(entry):
        return Verdict(judged(world, saying, means), [], None)
    found = run_road(world, saying, means[1])
    if isinstance(found, Left):
        return Verdict(None, found.goals, None)
    return Verdict(None, [], found.made)


class Book:
    """A book is never modified: a change of its entries makes another book."""

    def __init__(self, entries):
        check_entries(entries)
        self._settle(copied(entries), None, None)

    def _settle(self, entries, older, heard):
        """Take entries; return the names of the sayings about which the older book cannot tell the verdict."""
        self._entries = entries
        self._grow()
        self._verdicts = {}
        again = []
        for name, at in self._good_sayings.items():
            if older is not None and older._still_tells(entries[at], self._worlds[at]):
                self._verdicts[name] = older._verdicts[name]
                continue
            again.append(name)
            if heard is not None:
                heard(name)
            self._verdicts[name] = _verdict(self._worlds[at], entries[at])
        self._find_states()
        return again

    def _grow(self):
        """Find the world before each entry, the world of all good entries, and which entries are good."""
        self._worlds = []
        self._good = []
        self._good_sayings = {}
        self._whole = World()
        for at, entry in enumerate(self._entries):
            grown = _with_entry(self._whole, entry)
            self._worlds.append(self._whole)
            self._good.append(grown is not None)
            if grown is None:
                continue
            self._whole = grown
            if entry[0] == "say":
                self._good_sayings[entry_name(entry)] = at

    def _with_lower(self, said):
        """List these sayings and those on which they lean, in the order of the book."""
        found = set(said)
        for other in said:
            for lower in self._leant[other]:
                found.add(lower)
        return [other for other in self._leant if other in found]

    def _state(self, name, said):
        """Return the state of a good saying whose showing goes by these."""
        if self._verdicts[name].fault is not None:
            return "slip"
        if self._verdicts[name].goals:
            return "left"
        return "holds" if all([self._states[other] == "holds" for other in said]) else "leans"

    def _find_states(self):
        """Find the state of each good saying, and on which sayings it leans."""
        self._states = {}
        self._leant = {}
        for name in self._good_sayings:
            said = [other for other in said_names(self._showing(name)) if other in self._states]
            self._leant[name] = self._with_lower(said)
            self._states[name] = self._state(name, said)

    def _entry(self, name):
        return self._entries[self._good_sayings[name]]

    def _showing(self, name):
        """Return what was judged or made for a good saying; an empty chain if its road made nothing."""
        entry = self._entry(name)
        if not _has_road(entry):
            return entry[2]
        made = self._verdicts[name].made
        return ("chain", ()) if made is None else made

    def _still_tells(self, entry, world):
        """Tell whether what this book found about an entry is what is to be found in a world, too."""
        name = entry_name(entry)
        if name not in self._good_sayings or self._entry(name) != entry:
            return False
        before = self._worlds[self._good_sayings[name]]
        if _has_road(entry):
            return before == world
        stated = statements(before)
        stated_now = statements(world)
        return all([stated.get(word) == stated_now.get(word) for word in names_in(entry[1], entry[2])])

    def changed(self, entries, heard):
        """Return the book with these entries, which a book may have, and the names of what is judged again.

        `heard` is None, or it is called with each of these names ahead of the judgement.
        """
        made = Book([])
        again = made._settle(copied(entries), self, heard)
        return made, again

    def _check_name(self, name):
        if not is_name(name) or name not in self._good_sayings:
            raise BadName("there is no good saying of this name")

    def entries(self):
        """Return a new list of the entries."""
        return copied(self._entries)

    def whole(self):
        """Return the world of all good entries."""
        return self._whole.again()

    def states(self):
        """List pairs of the name and the state of each entry."""
        found = []
        for entry, is_good in zip(self._entries, self._good):
            name = entry_name(entry)
            if is_good:
                found.append((name, self._states[name] if entry[0] == "say" else "good"))
            else:
                found.append((name, "none"))
        return found

    def showing(self, name):
        """Return a new showing, what is shown or what slips, or None."""
        self._check_name(name)
        return None if self._states[name] == "left" else copied(self._showing(name))

    def slip(self, name):
        """Return a new Slip, or None."""
        self._check_name(name)
        fault = self._verdicts[name].fault
        return None if fault is None else Slip(fault.where, fault.why)

    def left(self, name):
        """Return a new list of the goals that remain."""
        self._check_name(name)
        return copied(self._verdicts[name].goals)

    def leant(self, name):
        """List the sayings on which this one leans, in the order of the book."""
        self._check_name(name)
        return list(self._leant[name])

    def borne(self, name):
        """List the sayings that lean on this one, in the order of the book."""
        self._check_name(name)
        return [other for other in self._leant if name in self._leant[other]]

    def __eq__(self, other):
        return isinstance(other, Book) and self._entries == other._entries

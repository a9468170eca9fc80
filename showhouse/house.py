"""The house: it keeps a book, in which deeds take effect as a whole or not at all."""

from showhouse.deeds import are_deeds, performed
from showhouse.errors import BadDeeds, Busy, NoDeed


class House:
    """A house has editions of its book, and a log of deeds."""

    def __init__(self, book):
        self._editions = [book]
        self._in_effect = 0
        self._log = []
        self._is_busy = False

    def _entries_behind(self, deeds):
        if not are_deeds(deeds):
            raise BadDeeds("the deeds are a list of tuples")
        return performed(self.book().entries(), deeds)

    def _entries_ahead(self):
        if self._in_effect == 0:
            raise NoDeed("no deed is in effect")
        return self._editions[-2].entries()

    def _check_free(self):
        if self._is_busy:
            raise Busy("a deed is being done")

    def _done(self, undoes, deeds, heard):
        """Do deeds as one, or undo the last one; return the names of what was judged again."""
        self._check_free()
        self._is_busy = True
        self._log.append(("in", self._in_effect))
        try:
            entries = self._entries_ahead() if undoes else self._entries_behind(deeds)
            made, again = self.book().changed(entries, heard)
            kept = self._editions[:-2] if undoes else self._editions
            self._editions = [*kept, made]
            self._in_effect = len(kept)
            return again
        finally:
            self._is_busy = False
            self._log.append(("out", self._in_effect))

    def put(self, entry, *, at=None, heard=None):
        """Insert an entry at a place, or at the end; return the names of what was judged again."""
        return self._done(False, [("put", entry, at)], heard)

    def take(self, name, *, heard=None):
        """Remove the entry of a name; return the names of what was judged again."""
        return self._done(False, [("take", name)], heard)

    def change(self, name, entry, *, heard=None):
        """Replace the entry of a name at its place; return the names of what was judged again."""
        return self._done(False, [("change", name, entry)], heard)

    def together(self, deeds, *, heard=None):
        """Do several deeds as one; return the names of what was judged again."""
        return self._done(False, deeds, heard)

    def undo(self, *, heard=None):
        """Undo the last deed that is in effect; return the names of what was judged again."""
        return self._done(True, [], heard)

    def book(self):
        """Return the book."""
        return self._editions[-1]

    def editions(self):
        """Return a new list of the first book and the books behind each deed in effect."""
        return list(self._editions)

    def log(self):
        """Return a new list of pairs: "in" or "out", and the number of deeds in effect."""
        return list(self._log)

    def deeds(self):
        """Return the number of deeds in effect."""
        return self._in_effect

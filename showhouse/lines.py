"""The lines of a text that is read: only what ends with a line feed is a line."""

from showhouse.errors import BadText


class Lines:
    """The lines of a text, of which `at` is the one to be read next."""

    def __init__(self, text):
        if not isinstance(text, str):
            raise BadText(0)
        rows = text.split("\n")
        self._behind = rows.pop()
        self._rows = rows
        self.at = 0

    def are_left(self):
        """Tell whether a line is left."""
        return self.at < len(self._rows)

    def next_is_below(self, indent):
        """Tell whether a line is left that begins with this indent, or with a deeper one."""
        return self.are_left() and self._rows[self.at].startswith(indent)

    def next_words(self):
        """Return the words of the next line, which is left."""
        return self._rows[self.at].split(" ")

    def next_is(self, line):
        """Tell whether this is the next line."""
        return self.are_left() and self._rows[self.at] == line

    def taken(self, indent):
        """Return the next line without this indent; raise BadText if there is no such line."""
        if not self.next_is_below(indent):
            raise BadText(self.at)
        self.at += 1
        return self._rows[self.at - 1][len(indent):]

    def finish(self):
        """Raise BadText if lines are left, or characters behind the last line feed."""
        if self.are_left() or self._behind:
            raise BadText(self.at)

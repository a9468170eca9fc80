"""The text of books."""

from showhouse.books import Book
from showhouse.entries import MOST_ENTRIES, entry_name
from showhouse.errors import BadText
from showhouse.lines import Lines
from showhouse.wording import INDENT, kind_line, next_part, operator_lines, saying_text
from showhouse.worlds import World
from showhouse.writing import Reader, indented, showing_lines

OPEN = "open"


def _entry_lines(book, entry, state):
    """Return the lines of a good entry."""
    if entry[0] == "kind":
        return [kind_line(entry[1], entry[2])]
    if entry[0] == "operator":
        return operator_lines(entry[1], entry[2], entry[3], entry[4])
    means = showing_lines(book.showing(entry_name(entry))) if state in ("holds", "leans") else [OPEN]
    return [saying_text(entry[1])] + indented(means)


def book_text(book):
    """Return the lines of the good entries of a book."""
    found = []
    for entry, (_, state) in zip(book.entries(), book.states()):
        if state != "none":
            found.extend(_entry_lines(book, entry, state))
    return "".join([line + "\n" for line in found])


def _check_next(names, lines):
    """Raise BadText at the next line if a book with entries of these names does not take up another one there."""
    words = lines.next_words()
    if len(names) == MOST_ENTRIES or len(words) > 1 and words[1] in names:
        raise BadText(lines.at)


def _means(world, lines):
    """Return the showing that the next lines tell, or the road that leaves everything."""
    if lines.next_is(INDENT + OPEN):
        lines.taken(INDENT)
        return ("road", (OPEN,))
    return Reader(lines, world.heads()).showing(INDENT, 1)


def read_book(text):
    """Return the book of a text."""
    lines = Lines(text)
    world = World()
    entries = []
    names = []
    while lines.are_left():
        _check_next(names, lines)
        entry, world = next_part(world, lines)
        if entry[0] == "say":
            entry = (*entry, _means(world, lines))
        entries.append(entry)
        names.append(entry_name(entry))
    lines.finish()
    return Book(entries)

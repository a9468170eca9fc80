"""The text of showings."""

from showhouse.errors import BadShowing, BadText
from showhouse.lines import Lines
from showhouse.showings import MOST_NESTED, MOST_NUMBER, MOST_STEPS, is_showing
from showhouse.terms import is_name
from showhouse.wording import INDENT, pair_from, term_from, written_pair, written_term


def indented(rows):
    """Return the lines one level deeper."""
    return [INDENT + row for row in rows]


def _step_line(by, way, place, bindings):
    words = [way, *[str(word) for word in by], "at", ".".join([str(at) for at in place]) or "-"]
    if bindings:
        pairs = [f"{hole} = {written_term(bindings[hole])}" for hole in sorted(list(bindings))]
        words.extend(["with", ", ".join(pairs)])
    return " ".join(words)


def _step_lines(step):
    by, way, place, bindings, inner = step
    found = [_step_line(by, way, place, bindings)]
    for part in inner:
        found.extend(indented(showing_lines(part)))
    return found


def _case_lines(builder, names, part):
    return [" ".join(["case", builder, *names])] + indented(showing_lines(part))


def showing_lines(showing):
    """Return the lines of what is known to be a showing."""
    word, about = showing[0], showing[1]
    rows = []
    if word == "chain":
        first = word
        for step in about:
            rows.extend(_step_lines(step))
    elif word in ("through", "split"):
        first = f"{word} {about}"
        for builder, (names, part) in showing[2].items():
            rows.extend(_case_lines(builder, names, part))
    elif word == "so":
        first = f"so {written_pair(about, showing[2])}"
        rows = showing_lines(showing[3]) + showing_lines(showing[4])
    else:
        first = f"{word} {about}"
        for part in showing[2:]:
            rows.extend(showing_lines(part))
    return [first] + indented(rows)


def showing_text(showing):
    """Return the text of a showing."""
    if not is_showing(showing):
        raise BadShowing("this is not constructed as a showing")
    return "".join([line + "\n" for line in showing_lines(showing)])


def _name_from(word, row):
    if not is_name(word):
        raise BadText(row)
    return word


def _number_from(word, row):
    """Return the number of a word; raise BadText if it is not written as numbers up to the greatest one are."""
    if not word.isdigit() or not word.isascii() or len(word) > len(str(MOST_NUMBER)) or str(int(word)) != word:
        raise BadText(row)
    return int(word)


def _by_from(words, row):
    """Return what a step goes by, and how many words it has."""
    word = "".join(words[:1])
    if word == "row":
        parts = words[1:3]
        if len(parts) < 2:
            raise BadText(row)
        return (word, _name_from(parts[0], row), _number_from(parts[1], row)), 3
    if word == "saying":
        return (word, _name_from("".join(words[1:2]), row)), 2
    if word in ("held", "given"):
        return (word, _number_from("".join(words[1:2]), row)), 2
    raise BadText(row)


def _place_from(word, row):
    if word == "-":
        return ()
    return tuple([_number_from(at, row) for at in word.split(".")])


def _bindings_from(text, heads, row):
    found = {}
    for part in text.split(", "):
        hole, _, side = part.partition(" = ")
        found[_name_from(hole, row)] = term_from(side, heads, row)
    return found


def _step_from(line, heads, row):
    """Return what a step goes by, its way, its place and its bindings."""
    words = line.split(" ")
    way = words[0]
    by, count = _by_from(words[1:], row)
    rest = words[count + 2:]
    place = _place_from("".join(rest[:1]), row)
    bindings = _bindings_from(" ".join(rest[2:]), heads, row) if len(rest) > 1 else {}
    if way not in ("on", "back") or _step_line(by, way, place, bindings) != line:
        raise BadText(row)
    return by, way, place, bindings


class Reader:
    """Reads showings from lines, where the heads are known."""

    def __init__(self, lines, heads):
        self._lines = lines
        self._heads = heads

    def _chain(self, indent, depth):
        steps = []
        while self._lines.next_is_below(indent):
            row = self._lines.at
            line = self._lines.taken(indent)
            if len(steps) == MOST_STEPS:
                raise BadText(row)
            by, way, place, bindings = _step_from(line, self._heads, row)
            inner = []
            while self._lines.next_is_below(indent + INDENT):
                inner.append(self.showing(indent + INDENT, depth + 1))
            steps.append((by, way, place, bindings, tuple(inner)))
        return ("chain", tuple(steps))

    def _cases(self, indent, depth):
        cases = {}
        while self._lines.next_is_below(indent):
            row = self._lines.at
            words = self._lines.taken(indent).split(" ")
            names = [_name_from(word, row) for word in words[1:]]
            if words[0] != "case" or not names or names[0] in cases:
                raise BadText(row)
            cases[names[0]] = (tuple(names[1:]), self.showing(indent + INDENT, depth + 1))
        return cases

    def showing(self, indent, depth):
        """Return the showing that begins on the next line with this indent, nested this deep."""
        row = self._lines.at
        line = self._lines.taken(indent)
        inside = indent + INDENT
        word, _, about = line.partition(" ")
        if depth > MOST_NESTED:
            raise BadText(row)
        if line == "chain":
            return self._chain(inside, depth)
        if word in ("through", "split"):
            return (word, _name_from(about, row), self._cases(inside, depth))
        if word == "peel":
            return (word, _number_from(about, row), self.showing(inside, depth + 1))
        if word == "never":
            return (word, _number_from(about, row))
        if word == "so":
            left, right = pair_from(about, self._heads, row)
            return (word, left, right, self.showing(inside, depth + 1), self.showing(inside, depth + 1))
        raise BadText(row)


def read_showing(world, text):
    """Return the showing of a text."""
    lines = Lines(text)
    showing = Reader(lines, world.heads()).showing("", 1)
    lines.finish()
    return showing

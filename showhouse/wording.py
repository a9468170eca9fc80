"""The text of terms, sayings and worlds.

What is read is taken apart loosely first. Then it is written again: the text is in the right
form if it is what is written.
"""

from showhouse.errors import BadKind, BadOperator, BadSaying, BadTerm, BadText
from showhouse.lines import Lines
from showhouse.sayings import Saying
from showhouse.terms import is_hole, is_name, is_term
from showhouse.worlds import World

INDENT = "  "


def written_term(term):
    """Return the text of what is known to be a term."""
    if is_hole(term):
        return term[1]
    return " ".join([term[1]] + [_written_argument(part) for part in term[2]])


def _written_argument(term):
    text = written_term(term)
    return text if is_hole(term) or not term[2] else f"({text})"


def written_pair(left, right):
    """Return the text of two terms that are said to be the same."""
    return f"{written_term(left)} = {written_term(right)}"


def term_text(term):
    """Return the text of a term."""
    if not is_term(term):
        raise BadTerm("this is no term")
    return written_term(term)


def _applied(parts):
    """Return the term that the first part makes of the others, or None if it is a hole and takes none."""
    first, *others = parts
    if not others:
        return first
    return None if is_hole(first) else ("of", first[1], tuple(others))


def _loose_term(text, heads):
    """Return a term that has these words in this order, or None, or what is no term."""
    # No group is empty where it ends: each parenthesis has a blank on its inside, and so a word, even if an empty one.
    groups = [[]]
    for word in text.replace("(", "( ").replace(")", " )").split(" "):
        if word == "(":
            groups.append([])
        elif word == ")":
            term = _applied(groups.pop())
            if term is None or not groups:
                return None
            groups[-1].append(term)
        else:
            groups[-1].append(("of", word, ()) if word in heads else ("hole", word))
    return _applied(groups[0]) if len(groups) == 1 else None


def term_from(text, heads, row):
    """Return the term of a text, where these words are heads; raise BadText with the row."""
    term = _loose_term(text, heads)
    if not is_term(term) or written_term(term) != text:
        raise BadText(row)
    return term


def pair_from(text, heads, row):
    """Return the pair of terms of a text."""
    left, _, right = text.partition(" = ")
    return (term_from(left, heads, row), term_from(right, heads, row))


def read_term(world, text):
    """Return the term of a text, of whatever kind or none."""
    if not isinstance(text, str):
        raise BadText(0)
    return term_from(text, world.heads(), 0)


def saying_text(saying):
    """Return the line of a saying, without a line feed."""
    words = ["say", saying.name()] + [f"{hole}:{kind}" for hole, kind in saying.holes().items()] + [":"]
    for left, right in saying.givens():
        words.append(f"{written_pair(left, right)} ->")
    words.append(written_pair(saying.left(), saying.right()))
    return " ".join(words)


def saying_from(line, heads, row):
    """Return the saying of a line, of whatever kinds."""
    front, _, back = line.partition(" : ")
    words = front.split(" ")
    pairs = [pair_from(text, heads, row) for text in back.split(" -> ")]
    holes = {}
    for word in words[2:]:
        hole, _, kind = word.partition(":")
        holes[hole] = kind
    left, right = pairs.pop()
    try:
        saying = Saying("".join(words[1:2]), holes, pairs, left, right)
    except BadSaying:
        raise BadText(row) from None
    if saying_text(saying) != line:
        raise BadText(row)
    return saying


def read_saying(world, text):
    """Return the saying of a line without a line feed, of whatever kinds."""
    if not isinstance(text, str):
        raise BadText(0)
    return saying_from(text, world.heads(), 0)


def kind_line(name, builders):
    """Return the line of a kind."""
    return f"kind {name} = " + " | ".join([" ".join([builder, *takes]) for builder, takes in builders])


def kind_from(line, row):
    """Return the name and the builders of the kind of a line; whether they are names is left to a world."""
    front, _, back = line.partition(" = ")
    name = front.removeprefix("kind ")
    parts = [part.split(" ") for part in back.split(" | ")]
    builders = [(words[0], tuple(words[1:])) for words in parts]
    if kind_line(name, builders) != line:
        raise BadText(row)
    return name, builders


def operator_lines(name, takes, gives, rows):
    """Return the lines of an operator."""
    first = " ".join(["make", name, *takes, "=", gives])
    return [first] + [INDENT + written_pair(left, right) for left, right in rows]


def operator_from(line, lines, heads, row):
    """Return the name, what it takes and gives, and the rows of an operator; its rows are taken from the lines."""
    words = line.split(" ")
    # Here names cannot be left to a world, because the rows come first.
    names = words[1:-2] + words[-1:]
    if len(words) < 4 or words[0] != "make" or words[-2] != "=" or not all([is_name(name) for name in names]):
        raise BadText(row)
    name = words[1]
    rows = []
    while lines.next_is_below(INDENT):
        at = lines.at
        rows.append(pair_from(lines.taken(INDENT), {**heads, name: None}, at))
    return name, tuple(words[2:-2]), words[-1], rows


def _kind_part(world, line, row):
    name, builders = kind_from(line, row)
    try:
        return ("kind", name, builders), world.with_kind(name, builders)
    except BadKind:
        raise BadText(row) from None


def _operator_part(world, line, lines, row):
    name, takes, gives, rows = operator_from(line, lines, world.heads(), row)
    try:
        return ("operator", name, takes, gives, rows), world.with_operator(name, takes, gives, rows)
    except BadOperator:
        raise BadText(row) from None


def _saying_part(world, line, row):
    saying = saying_from(line, world.heads(), row)
    try:
        return ("say", saying), world.with_saying(saying)
    except BadSaying:
        raise BadText(row) from None


def next_part(world, lines):
    """Return the kind, operator or saying that the next lines tell, and the world with it."""
    row = lines.at
    line = lines.taken("")
    if line.startswith("kind "):
        return _kind_part(world, line, row)
    if line.startswith("make "):
        return _operator_part(world, line, lines, row)
    return _saying_part(world, line, row)


def world_text(world):
    """Return the lines of all parts of a world, in the order in which they were added."""
    kinds = world.kinds()
    operators = world.operators()
    sayings = world.sayings()
    found = []
    for word, name in world.parts():
        if word == "kind":
            found.append(kind_line(name, kinds[name]))
        elif word == "operator":
            takes, gives, rows = operators[name]
            found.extend(operator_lines(name, takes, gives, rows))
        else:
            found.append(saying_text(sayings[name]))
    return "".join([line + "\n" for line in found])


def read_world(text):
    """Return the world of a text."""
    lines = Lines(text)
    world = World()
    while lines.are_left():
        _, world = next_part(world, lines)
    lines.finish()
    return world

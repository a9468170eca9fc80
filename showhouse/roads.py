"""Roads: scripts that construct showings, or tell what remains.

Each road comes to a pair: a showing, and the goals that remain. Where goals remain, the showing is None.
"""

from showhouse.contexts import context_of
from showhouse.copies import copied
from showhouse.errors import BadSaying, BadShowing, TooMuch
from showhouse.finder import Finder
from showhouse.lore import Lore
from showhouse.moves import is_new, never_fault, peel_fault, peeled, so_fault
from showhouse.roadforms import is_road
from showhouse.seeking import searched
from showhouse.showings import MOST_STEPS
from showhouse.terms import is_big, part_at

LETTERS = "abcdefghijklmnopqrstuvwxyz"


class Shown:
    """What a road constructs where nothing remains."""

    def __init__(self, made):
        self.made = copied(made)


class Left:
    """What remains: triples of a location and the two sides of a goal."""

    def __init__(self, goals):
        self.goals = copied(goals)


def _remaining(context, where):
    left, right = context.goal
    return None, [(where, left, right)]


def _whole(showing, goals):
    """Return what a road comes to that constructs this if its parts leave nothing."""
    return (None, goals) if goals else (showing, [])


def _turned(step):
    by, _, place, bindings, inner = step
    return (by, "back", place, bindings, inner)


def _steps_between(lore, context, names, most):
    """Return the steps from left to right by normal forms and a search, or None; raise TooMuch."""
    finder = Finder(lore, context.all_holes())
    left, right = context.goal
    start, ahead = finder.normal(left)
    end, behind = finder.normal(right)
    path, _ = searched(finder, lore.rules(names), start, end, most)
    return None if path is None else ahead + path + [_turned(step) for step in reversed(behind)]


def _sought(lore, context, names, most, where):
    try:
        steps = _steps_between(lore, context, names, most)
    except TooMuch:
        return _remaining(context, where)
    if steps is None or len(steps) > MOST_STEPS:
        return _remaining(context, where)
    return ("chain", tuple(steps)), []


def _plain(lore, context, _, where):
    return _sought(lore, context, (), 0, where)


def _seek(lore, context, road, where):
    _, names, most = road
    if not lore.are_names(names):
        return _remaining(context, where)
    return _sought(lore, context, names, most, where)


def _next_name(name):
    """Return the name behind this one, in the order by length and then by letters."""
    stem = name.rstrip("z")
    if not stem:
        return "a" * (len(name) + 1)
    letter = LETTERS[LETTERS.index(stem[-1]) + 1]
    return stem[:-1] + letter + "a" * (len(name) - len(stem))


def _new_names(lore, context, count):
    """Return a tuple of the first new names."""
    found = []
    name = LETTERS[0]
    while len(found) < count:
        if is_new(lore, context, name):
            found.append(name)
        name = _next_name(name)
    return tuple(found)


def _by_cases(lore, context, road, where):
    word, hole, roads = road
    kind = context.kind_for(word, hole)
    if kind is None or len(lore.builders_of(kind)) != len(roads):
        return _remaining(context, where)
    cases = []
    for builder, takes in lore.builders_of(kind).items():
        names = _new_names(lore, context, len(takes))
        inside = context.in_case(word, hole, builder, dict(zip(names, takes)))
        if inside.is_too_big():
            return _remaining(context, where)
        cases.append((builder, names, inside))
    made = {}
    goals = []
    for (builder, names, inside), part in zip(cases, roads):
        showing, left = _run(lore, inside, part, [*where, ("case", builder)])
        made[builder] = (names, showing)
        goals.extend(left)
    return _whole((word, hole, made), goals)


def _peel(lore, context, road, where):
    _, number, part = road
    if peel_fault(lore, context, number) is not None:
        return _remaining(context, where)
    showing, goals = _run(lore, peeled(context, number), part, [*where, ("peel", 0)])
    return _whole(("peel", number, showing), goals)


def _never(lore, context, road, where):
    if never_fault(lore, context, road[1]) is not None:
        return _remaining(context, where)
    return ("never", road[1]), []


def _so(lore, context, road, where):
    _, left, right, first, second = road
    if so_fault(lore, context, left, right) is not None:
        return _remaining(context, where)
    one, goals = _run(lore, context.for_goal((left, right)), first, [*where, ("so", 0)])
    other, more = _run(lore, context.with_givens([(left, right)]), second, [*where, ("so", 1)])
    return _whole(("so", left, right, one, other), goals + more)


def _lean(lore, context, road, where):
    _, by, way, place, part = road
    left, right = context.goal
    rule = lore.rule(by, context.held, context.given_pairs)
    there = part_at(left, place)
    if rule is None or rule[1] or there is None:
        return _remaining(context, where)
    found = Finder(lore, context.all_holes()).step_at(by, rule, way, left, place, there)
    if found is None or is_big(found[1]):
        return _remaining(context, where)
    step, made = found
    showing, goals = _run(lore, context.for_goal((made, right)), part, [*where, ("so", 0)])
    given = (("given", len(context.given_pairs)), "on", (), {}, ())
    return _whole(("so", made, right, showing, ("chain", (step, given))), goals)


def _first(lore, context, road, where):
    ends = []
    for part in road[1]:
        showing, goals = _run(lore, context, part, where)
        if not goals:
            return showing, []
        ends.append(goals)
    return None, ends[0]


def _open(_, context, _road, where):
    return _remaining(context, where)


_RUNS = {
    "plain": _plain,
    "seek": _seek,
    "through": _by_cases,
    "split": _by_cases,
    "peel": _peel,
    "never": _never,
    "so": _so,
    "lean": _lean,
    "first": _first,
    "open": _open,
}


def _run(lore, context, road, where):
    """Return what a road comes to in a context, at a location of the showing that would result."""
    # A showing is nested no deeper than the road that constructs it, and so never too deeply.
    run = _RUNS[road[0]]
    return run(lore, context, road, where)


def run_road(world, saying, road):
    """Run a road for a saying; return a Shown, which the judge accepts, or a Left."""
    if not world.fits(saying):
        raise BadSaying("this is no saying of the world")
    if not is_road(road):
        raise BadShowing("this is not constructed as a road")
    showing, goals = _run(Lore(world), context_of(saying), road, [])
    return Left(goals) if goals else Shown(showing)

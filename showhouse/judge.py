"""The judge: whether a showing shows a saying, or where it slips."""

from showhouse.contexts import context_of
from showhouse.errors import BadSaying, BadShowing
from showhouse.lore import Lore
from showhouse.showings import is_showing
from showhouse.steps import taken_step


class Slip:
    """The first failure of a showing: `where` it stands, and `why`."""

    def __init__(self, where, why):
        self.where = list(where)
        self.why = why


def _chain(lore, context, showing, where):
    term, end = context.goal
    for number, step in enumerate(showing[1]):
        why, term, goals = taken_step(lore, context, term, step)
        if why is not None:
            return Slip([*where, ("step", number)], why)
        for at, goal in enumerate(goals):
            found = _entered(lore, context.for_goal(goal), step[4][at], [*where, ("inner", number, at)])
            if found is not None:
                return found
    return None if term == end else Slip(where, "end")


def _are_new(lore, context, names, takes):
    """Tell whether these are as many new names as a builder takes arguments."""
    return (
        len(names) == len(takes)
        and len(set(names)) == len(names)
        and not any([lore.is_head(name) or context.knows_hole(name) for name in names])
    )


def _by_cases(lore, context, showing, where):
    word, hole, cases = showing
    kind = (context.free if word == "through" else context.all_holes()).get(hole)
    if kind is None:
        return Slip(where, "hole")
    builders = lore.builders_of(kind)
    if set(list(cases)) != set(list(builders)):
        return Slip(where, "cases")
    for builder, takes in builders.items():
        if not _are_new(lore, context, cases[builder][0], takes):
            return Slip([*where, ("case", builder)], "names")
    for builder, takes in builders.items():
        names, part = cases[builder]
        kinds = dict(zip(names, takes))
        if word == "through":
            inside = context.in_through(hole, builder, kinds)
        else:
            inside = context.in_split(hole, builder, kinds)
        found = _entered(lore, inside, part, [*where, ("case", builder)])
        if found is not None:
            return found
    return None


def _peel(lore, context, showing, where):
    _, number, part = showing
    if number >= len(context.given_pairs):
        return Slip(where, "given")
    left, right = context.given_pairs[number]
    builder = lore.builder_at(left)
    if builder is None or builder != lore.builder_at(right):
        return Slip(where, "builders")
    inside = context.with_givens(list(zip(left[2], right[2])))
    return _entered(lore, inside, part, [*where, ("peel", 0)])


def _never(lore, context, showing, where):
    number = showing[1]
    if number >= len(context.given_pairs):
        return Slip(where, "given")
    builders = [lore.builder_at(side) for side in context.given_pairs[number]]
    if None in builders or builders[0] == builders[1]:
        return Slip(where, "builders")
    return None


def _so(lore, context, showing, where):
    _, left, right, first, second = showing
    kind = lore.kind(left, context.all_holes())
    if kind is None or kind != lore.kind(right, context.all_holes()):
        return Slip(where, "kinds")
    found = _entered(lore, context.for_goal((left, right)), first, [*where, ("so", 0)])
    if found is not None:
        return found
    return _entered(lore, context.with_givens([(left, right)]), second, [*where, ("so", 1)])


_JUDGES = {
    "chain": _chain,
    "through": _by_cases,
    "split": _by_cases,
    "peel": _peel,
    "never": _never,
    "so": _so,
}


def _entered(lore, context, showing, where):
    """Judge a showing at a location; return a Slip or None."""
    if context.is_too_big():
        return Slip(where, "big")
    judge = _JUDGES[showing[0]]
    return judge(lore, context, showing, where)


def judged(world, saying, showing):
    """Return None if the showing shows the saying, or else the Slip."""
    if not world.fits(saying):
        raise BadSaying("this is no saying of the world")
    if not is_showing(showing):
        raise BadShowing("this is not constructed as a showing")
    return _entered(Lore(world), context_of(saying), showing, [])

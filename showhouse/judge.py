"""The judge: whether a showing shows a saying, or where it slips."""

from showhouse.contexts import context_of
from showhouse.errors import BadSaying, BadShowing
from showhouse.lore import Lore
from showhouse.moves import is_new, never_fault, peel_fault, peeled, so_fault
from showhouse.showings import is_showing
from showhouse.steps import taken_step


class Slip:
    """The first failure of a showing: `where` it stands, and `why`."""

    def __init__(self, where, why):
        self.where = list(where)
        self.why = why


def _chain(lore, context, showing, where):
    term, end = context.goal
    for number, step in enumerate(showing[1]):
        why, term, goals = taken_step(lore, context, term, step)
        if why is not None:
            return Slip([*where, ("step", number)], why)
        for at, goal in enumerate(goals):
            found = _entered(lore, context.for_goal(goal), step[4][at], [*where, ("inner", number, at)])
            if found is not None:
                return found
    return None if term == end else Slip(where, "end")


def _are_new(lore, context, names, takes):
    """Tell whether these are as many new names as a builder takes arguments."""
    return (
        len(names) == len(takes)
        and len(set(names)) == len(names)
        and all([is_new(lore, context, name) for name in names])
    )


def _by_cases(lore, context, showing, where):
    word, hole, cases = showing
    kind = context.kind_for(word, hole)
    if kind is None:
        return Slip(where, "hole")
    builders = lore.builders_of(kind)
    if set(list(cases)) != set(list(builders)):
        return Slip(where, "cases")
    for builder, takes in builders.items():
        if not _are_new(lore, context, cases[builder][0], takes):
            return Slip([*where, ("case", builder)], "names")
    for builder, takes in builders.items():
        names, part = cases[builder]
        inside = context.in_case(word, hole, builder, dict(zip(names, takes)))
        found = _entered(lore, inside, part, [*where, ("case", builder)])
        if found is not None:
            return found
    return None


def _peel(lore, context, showing, where):
    _, number, part = showing
    fault = peel_fault(lore, context, number)
    if fault is not None:
        return Slip(where, fault)
    return _entered(lore, peeled(context, number), part, [*where, ("peel", 0)])


def _never(lore, context, showing, where):
    fault = never_fault(lore, context, showing[1])
    return None if fault is None else Slip(where, fault)


def _so(lore, context, showing, where):
    _, left, right, first, second = showing
    fault = so_fault(lore, context, left, right)
    if fault is not None:
        return Slip(where, fault)
    found = _entered(lore, context.for_goal((left, right)), first, [*where, ("so", 0)])
    if found is not None:
        return found
    return _entered(lore, context.with_givens([(left, right)]), second, [*where, ("so", 1)])


_JUDGES = {
    "chain": _chain,
    "through": _by_cases,
    "split": _by_cases,
    "peel": _peel,
    "never": _never,
    "so": _so,
}


def _entered(lore, context, showing, where):
    """Judge a showing at a location; return a Slip or None."""
    if context.is_too_big():
        return Slip(where, "big")
    judge = _JUDGES[showing[0]]
    return judge(lore, context, showing, where)


def judged(world, saying, showing):
    """Return None if the showing shows the saying, or else the Slip."""
    if not world.fits(saying):
        raise BadSaying("this is no saying of the world")
    if not is_showing(showing):
        raise BadShowing("this is not constructed as a showing")
    return _entered(Lore(world), context_of(saying), showing, [])

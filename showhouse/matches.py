"""The first way to map outlines to distinct other ones that are like them.

`options` maps each thing of one world to the list of the things of another world to which it may be mapped.
"""


def _is_possible(options, outline, other):
    return all([there in options[thing] for thing, there in zip(outline.others, other.others)])


def _kept_by(options, outline, images, at):
    """List to what the outline's other thing with this number is mapped where the outline is mapped to its images."""
    found = [image.others[at] for image in images]
    return [there for there in options[outline.others[at]] if there in found]


def _narrowed_once(one, other, options):
    """Return the options without those that some other thing makes impossible."""
    found = {
        thing: [there for there in options[thing] if _is_possible(options, one[thing], other[there])] for thing in one
    }
    for thing in one:
        images = [other[there] for there in found[thing]]
        for at, inner in enumerate(one[thing].others):
            found[inner] = _kept_by(found, one[thing], images, at)
    for thing in one:
        if len(found[thing]) == 1:
            for rival in one:
                if rival != thing:
                    found[rival] = [there for there in found[rival] if there != found[thing][0]]
    return found


def _find_place(thing, options, taken, seen):
    """Give the thing a place of its own, if others are moved where that is needed; tell whether there is one."""
    for there in options[thing]:
        if there in seen:
            continue
        seen[there] = True
        if there not in taken or _find_place(taken[there], options, taken, seen):
            taken[there] = thing
            return True
    return False


def _have_places(options):
    """Tell whether each thing can be mapped to another one of its options."""
    taken = {}
    return all([_find_place(thing, options, taken, {}) for thing in options])


def _count(options):
    return sum([len(places) for places in options.values()])


def _narrowed(one, other, options):
    """Return the options that are left where none is plainly impossible, or None."""
    while True:
        found = _narrowed_once(one, other, options)
        if not all([found[thing] for thing in found]):
            return None
        if _count(found) == _count(options):
            return found if _have_places(found) else None
        options = found


def _first_from(one, other, options, at):
    """Return the first map that goes on from where all things ahead of this index have one option."""
    options = _narrowed(one, other, options)
    things = list(one)
    if options is None or at == len(things):
        return options
    for there in options[things[at]]:
        found = _first_from(one, other, {**options, things[at]: [there]}, at + 1)
        if found is not None:
            return found
    return None


def first_match(one, other):
    """Return a dict that maps each thing of one world to a like thing of the other one, or None.

    The first thing is mapped to the earliest possible one, then the next thing, and so on.
    """
    options = {
        thing: [there for there in other if other[there].form == one[thing].form] for thing in one
    }
    found = _first_from(one, other, options, 0)
    return None if found is None else {thing: places[0] for thing, places in found.items()}


def is_match(one, other, found):
    """Tell whether a dict that maps the things of one world to distinct ones maps each to a like thing of the other."""
    for thing, there in found.items():
        if there not in other or other[there].form != one[thing].form:
            return False
        if [found.get(inner) for inner in one[thing].others] != other[there].others:
            return False
    return True

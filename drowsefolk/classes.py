"""Classes: their members [41], thin worlds [42], least wakers [43], joins and meets [44]."""

from drowsefolk.checks import (
    check_number, check_size, everybody, in_world_order, mask_of, mask_or_all, paper_mask, positions, subsets, tell,
    tell_all, with_fewest, without,
)
from drowsefolk.closing import closed_in_all
from drowsefolk.errors import NotThin
from drowsefolk.fewest import distances
from drowsefolk.names import CLASS_LIMIT, SUBSET_LIMIT
from drowsefolk.nests import greatest_nest_mask, nest_in_paper


def _member_masks(web, awake):
    """The masks of all members of the class in world order; refuses a class that is too large."""
    return in_world_order(list(distances(web, mask_of(web, awake), CLASS_LIMIT)))


def members(web, awake):
    """All members of the class in world order."""
    return tell_all(web, _member_masks(web, awake))


def class_size(web, awake):
    """The number of members of the class."""
    return len(_member_masks(web, awake))


def rank(web, awake):
    """The place of the world among the members of its class, from 0."""
    return _member_masks(web, awake).index(mask_of(web, awake))


def member_at(web, awake, place):
    """The member of the class with this rank."""
    found = _member_masks(web, awake)
    check_number(place, 0, len(found) - 1)
    return tell(web, found[place])


def least_member(web, awake):
    """The member of the class that comes first in world order."""
    return tell(web, _member_masks(web, awake)[0])


def droppable_places(web, world):
    """The places of those who can be left out one at a time without leaving the class, in folk order."""
    whole = closed_in_all(web, world)
    return [place for place in positions(world) if closed_in_all(web, without(world, 1 << place)) == whole]


def thin_members(web, awake):
    """The thin members of the class in world order."""
    return tell_all(web, [mask for mask in _member_masks(web, awake) if len(droppable_places(web, mask)) == 0])


def _sizes(web):
    """The number of members of each class by the mask of its closure; refuses a web of too many folk."""
    check_size("folk", len(web.names), SUBSET_LIMIT)
    sizes = {}
    for world in range(1 << len(web.names)):
        whole = closed_in_all(web, world)
        sizes[whole] = sizes.get(whole, 0) + 1
    return sizes


def _closure_masks(web):
    """The masks of all closures in world order."""
    return in_world_order(list(_sizes(web)))


def classes(web):
    """The closures that tell the classes of the web, in world order."""
    return tell_all(web, _closure_masks(web))


def class_table(web):
    """Each class by its closure, with the number of its members."""
    sizes = _sizes(web)
    return [(tell(web, whole), sizes[whole]) for whole in in_world_order(list(sizes))]


def class_place(web, awake):
    """The place of the class of the world among the classes, from 0."""
    world = mask_of(web, awake)
    return _closure_masks(web).index(closed_in_all(web, world))


def class_join(web, awake, target):
    """The least closure that contains both worlds."""
    first = mask_of(web, awake)
    return tell(web, closed_in_all(web, first | mask_of(web, target)))


def class_meet(web, awake, target):
    """The greatest closure that lies in the closures of both worlds."""
    first = mask_of(web, awake)
    last = mask_of(web, target)
    return tell(web, closed_in_all(web, first) & closed_in_all(web, last))


def is_thin(web, awake):
    """True if nobody can be left out of the world without leaving its class."""
    return len(droppable_places(web, mask_of(web, awake))) == 0


def thinned(web, awake):
    """The thin world left when each one who can be left out goes, in folk order."""
    world = mask_of(web, awake)
    whole = closed_in_all(web, world)
    kept = world
    for place in positions(world):
        rest = without(kept, 1 << place)
        if closed_in_all(web, rest) == whole:
            kept = rest
    return tell(web, kept)


def thin_paper(web, awake):
    """A nest for each awake one that nobody else who is awake is in; refuses a world that is not thin."""
    world = mask_of(web, awake)
    places = droppable_places(web, world)
    if len(places) > 0:
        raise NotThin(web.names[places[0]])
    return [
        (web.names[place], tell(web, greatest_nest_mask(web, without(world, 1 << place))))
        for place in positions(world)
    ]


def is_thin_paper(web, awake, paper):
    """True if the paper has one pair for each awake one, with a nest in which nobody else who is awake is."""
    world = mask_of(web, awake)
    if paper_mask(web, [row[0] for row in paper]) != world:
        return False
    for name, names in paper:
        nest = nest_in_paper(web, names)
        if nest is None or nest & world != mask_of(web, [name]):
            return False
    return True


def least_wakers(web, *, target=None):
    """The worlds with the fewest awake whose closure contains the target; None means all folk."""
    goal = mask_or_all(web, target)
    check_size("folk", len(web.names), SUBSET_LIMIT)
    found = [world for world in subsets(everybody(web)) if without(goal, closed_in_all(web, world)) == 0]
    return tell_all(web, with_fewest(found))

"""Nests: sets of folk of whom nobody wakes as long as all of them sleep [23]; closure papers [24]."""

from drowsefolk.checks import (
    check_size, everybody, mask_of, paper_mask, place_in, positions, subsets, tell, tell_all, without,
)
from drowsefolk.closing import closed_in_all, waking_places, world_woken
from drowsefolk.deeds import weight_at
from drowsefolk.errors import NotNest
from drowsefolk.names import SUBSET_LIMIT


def stays_asleep(web, nest, others):
    """True if each member of the nest needs more than the weight from all the others together."""
    return all([web.need_at(place) > weight_at(web, others, place) for place in positions(nest)])


def is_nest_mask(web, nest):
    """True if the set of this mask is a nest of the web."""
    return stays_asleep(web, nest, without(everybody(web), nest))


def nest_in_paper(web, paper):
    """The mask of a nest in a paper, or None if its names are no nest of the web or no set at all."""
    nest = paper_mask(web, paper)
    if nest is None or not is_nest_mask(web, nest):
        return None
    return nest


def greatest_nest_mask(web, world):
    """The mask of the greatest nest of a world."""
    return without(everybody(web), closed_in_all(web, world))


def nest_masks(web):
    """The masks of all nests in world order; refuses a web of too many folk."""
    check_size("folk", len(web.names), SUBSET_LIMIT)
    return [nest for nest in subsets(everybody(web)) if is_nest_mask(web, nest)]


def outside_weight(web, names, name):
    """The weight on the named one from all folk who are not among the names."""
    others = without(everybody(web), mask_of(web, names))
    return weight_at(web, others, place_in(web.names, name))


def is_nest(web, paper):
    """True if the names of the paper form a nest of the web."""
    return nest_in_paper(web, paper) is not None


def is_nest_of(web, awake, paper):
    """True if the names of the paper form a nest of the web that the world avoids."""
    world = mask_of(web, awake)
    nest = nest_in_paper(web, paper)
    return nest is not None and nest & world == 0


def greatest_nest(web, awake):
    """The greatest nest of the world."""
    return tell(web, greatest_nest_mask(web, mask_of(web, awake)))


def avoids(web, awake, names):
    """True if none of the names is awake."""
    world = mask_of(web, awake)
    return mask_of(web, names) & world == 0


def nest_union(web, one, other):
    """The union of two nests; refuses sets that are no nests."""
    first = mask_of(web, one)
    second = mask_of(web, other)
    for mask in (first, second):
        if not is_nest_mask(web, mask):
            raise NotNest(tell(web, mask))
    return tell(web, first | second)


def all_nests(web):
    """All nests of the web in world order, the empty one first."""
    return tell_all(web, nest_masks(web))


def _is_prime(nest, nests):
    """True if the nest is not the union of those of the nests that are smaller and lie in it."""
    union = 0
    for part in nests:
        if part != nest and without(part, nest) == 0:
            union = union | part
    # The empty nest is the union of no nests.
    return union != nest


def prime_nests(web):
    """All prime nests of the web in world order."""
    nests = nest_masks(web)
    return tell_all(web, [nest for nest in nests if _is_prime(nest, nests)])


def closure_paper(web, awake):
    """The waking order of the world and its greatest nest, which together show its closure."""
    world = mask_of(web, awake)
    order = tuple([web.names[place] for place in waking_places(web, world, everybody(web))])
    return (order, tell(web, greatest_nest_mask(web, world)))


def is_closure_paper(web, awake, target, paper):
    """True if the paper shows that the target is the closure of the world."""
    world = mask_of(web, awake)
    goal = mask_of(web, target)
    if len(paper) != 2:
        return False
    if world_woken(web, world, paper[0], everybody(web)) != goal:
        return False
    return nest_in_paper(web, paper[1]) == without(everybody(web), goal)

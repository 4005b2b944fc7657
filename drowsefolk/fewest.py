"""The fewest deeds between two worlds, by helpers [31] [32], and tables of distances [34]."""

from drowsefolk.checks import (
    check_number, check_size, everybody, in_world_order, mask_of, paper_mask, size_of, subsets, tell, tell_all,
    without,
)
from drowsefolk.closing import closed
from drowsefolk.deeds import missing_at
from drowsefolk.names import CLASS_LIMIT, MOST_DEEDS
from drowsefolk.reach import check_one_class, history_between


def _are_helpers(web, first, last, mask):
    """True if both worlds wake all of themselves and of the set, while nobody else wakes."""
    union = first | last | mask
    return closed(web, first, union) == union and closed(web, last, union) == union


def _least_helper_masks(web, first, last):
    """The masks of all sets of helpers with the fewest members; refuses worlds that are not of one class."""
    check_one_class(web, first, last, everybody(web))
    found = []
    for mask in subsets(without(everybody(web), first | last)):
        # The sets come by their size: behind the first one found, only those of its size count.
        if len(found) > 0 and size_of(mask) > size_of(found[0]):
            return found
        if _are_helpers(web, first, last, mask):
            found.append(mask)
    return found


def fewest_number(web, first, last):
    """The fewest deeds between the worlds of these masks."""
    least = _least_helper_masks(web, first, last)[0]
    return size_of(first ^ last) + 2 * size_of(least)


def worlds_next(web, world):
    """The masks of the worlds behind one deed, in folk order of those who turn."""
    return [world ^ (1 << place) for place in range(len(web.names)) if missing_at(web, world, place) == 0]


def _worlds_beyond(web, found, edge):
    """The masks of the worlds behind one deed from those of the edge that are not found yet, each once."""
    fresh = {}
    for one in edge:
        for other in worlds_next(web, one):
            if other not in found:
                fresh[other] = True
    return list(fresh)


def distances(web, world, limit):
    """The fewest deeds from the world to each of its class, near ones first; refuses a class above the limit."""
    found = {world: 0}
    edge = [world]
    number = 0
    while len(edge) > 0:
        number = number + 1
        edge = _worlds_beyond(web, found, edge)
        for other in edge:
            found[other] = number
        check_size("class", len(found), limit)
    return found


def helpers(web, awake, target):
    """The least helpers of the two worlds."""
    return least_helpers(web, awake, target)[0]


def least_helpers(web, awake, target):
    """All sets of helpers with the fewest members."""
    first = mask_of(web, awake)
    return tell_all(web, _least_helper_masks(web, first, mask_of(web, target)))


def fewest(web, awake, target):
    """The fewest deeds from the world to the target."""
    first = mask_of(web, awake)
    return fewest_number(web, first, mask_of(web, target))


def fewest_history(web, awake, target):
    """A history from the world to the target with the fewest deeds."""
    first = mask_of(web, awake)
    last = mask_of(web, target)
    return history_between(web, first, last, first | last | _least_helper_masks(web, first, last)[0])


def is_helpers(web, awake, target, paper):
    """True if the names of the paper are a set of helpers of the two worlds."""
    first = mask_of(web, awake)
    last = mask_of(web, target)
    mask = paper_mask(web, paper)
    # Two worlds with a set of helpers are of one class: each one lies in the closure of the other.
    return mask is not None and mask & (first | last) == 0 and _are_helpers(web, first, last, mask)


def distance_table(web, awake):
    """Each world of the class with the fewest deeds that lead to it, in world order."""
    found = distances(web, mask_of(web, awake), CLASS_LIMIT)
    return [(tell(web, world), found[world]) for world in in_world_order(list(found))]


def _numbers_in_paper(web, paper):
    """The numbers of a bound table by the masks of its worlds, or None if a row is wrong by itself."""
    numbers = {}
    for names, number in paper:
        world = paper_mask(web, names)
        if world is None or world in numbers or not isinstance(number, int) or isinstance(number, bool):
            return None
        numbers[world] = number
    return numbers


def _rises_by_one(web, numbers):
    """True if each deed leads from a listed world to a listed one whose number is greater by one at the most."""
    for world in list(numbers):
        for other in worlds_next(web, world):
            if other not in numbers or numbers[other] > numbers[world] + 1:
                return False
    return True


def is_bound_table(web, awake, target, paper, bound):
    """True if the paper is a table which shows that no history between the worlds has fewer deeds than the bound."""
    first = mask_of(web, awake)
    last = mask_of(web, target)
    check_number(bound, 0, MOST_DEEDS)
    if len(paper) > CLASS_LIMIT:
        return False
    numbers = _numbers_in_paper(web, paper)
    if numbers is None or first not in numbers or last not in numbers:
        return False
    return numbers[first] <= 0 and numbers[last] >= bound and _rises_by_one(web, numbers)

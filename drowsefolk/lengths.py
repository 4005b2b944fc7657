"""Histories of exact lengths [33], counted and listed, and the width of a class [35]."""

from drowsefolk.checks import (
    check_number, check_size, everybody, first_place, in_world_order, mask_of, tell, tell_all,
)
from drowsefolk.deeds import turners
from drowsefolk.errors import NoLength
from drowsefolk.fewest import distances, fewest_history, fewest_number, worlds_next
from drowsefolk.histories import History
from drowsefolk.names import CLASS_LIMIT, MOST_DEEDS, SMALL_CLASS
from drowsefolk.reach import one_class

_MOST_COUNTED = 12
_MOST_LISTED = 60


def _deeds_beyond(web, first, last, length):
    """How many deeds the length has beyond the fewest, or None if no history has it; refuses unlike classes."""
    more = length - fewest_number(web, first, last)
    if more == 0:
        return 0
    # Further deeds are spent by somebody who turns to and fro, so there must be one who may.
    if more > 0 and more % 2 == 0 and len(worlds_next(web, first)) > 0:
        return more
    return None


def can_last(web, awake, target, length):
    """True if there is a history of exactly this length."""
    first = mask_of(web, awake)
    last = mask_of(web, target)
    check_number(length, 0, MOST_DEEDS)
    return one_class(web, first, last, everybody(web)) and _deeds_beyond(web, first, last, length) is not None


def history_of_length(web, awake, target, length):
    """A history of exactly this length."""
    first = mask_of(web, awake)
    last = mask_of(web, target)
    check_number(length, 0, MOST_DEEDS)
    more = _deeds_beyond(web, first, last, length)
    if more is None:
        raise NoLength(length)
    return History(web, awake, turners(web, awake)[:1] * more + fewest_history(web, awake, target).deeds)


def _counts_of_fewest(web, found):
    """The number of fewest histories to each world of a table of distances, which lists near worlds first."""
    counts = {}
    for world in list(found):
        nearer = [other for other in worlds_next(web, world) if found[other] < found[world]]
        counts[world] = 1 if found[world] == 0 else sum([counts[other] for other in nearer])
    return counts


def count_fewest(web, awake, target):
    """The number of all histories with the fewest deeds; 0 if the worlds are not of one class."""
    first = mask_of(web, awake)
    last = mask_of(web, target)
    return _counts_of_fewest(web, distances(web, first, CLASS_LIMIT)).get(last, 0)


def _fewest_rows(web, first, last):
    """The deeds of all histories with the fewest deeds between worlds of one class, in order of their places."""
    left = distances(web, last, CLASS_LIMIT)
    rows = [(first, ())]
    for _ in range(left[first]):
        # Each row is followed by its longer ones in folk order, which keeps the rows in order.
        rows = [
            (other, deeds + (web.names[first_place(world ^ other)],))
            for world, deeds in rows for other in worlds_next(web, world) if left[other] < left[world]
        ]
    return [row[1] for row in rows]


def fewest_histories(web, awake, target, *, most=20):
    """The deeds of all histories with the fewest deeds; refuses more of them than told."""
    first = mask_of(web, awake)
    last = mask_of(web, target)
    check_number(most, 1, _MOST_LISTED)
    counts = _counts_of_fewest(web, distances(web, first, CLASS_LIMIT))
    if last not in counts:
        return []
    check_size("histories", counts[last], most)
    return _fewest_rows(web, first, last)


def count_lasting(web, awake, target, length):
    """The number of histories of exactly this length."""
    first = mask_of(web, awake)
    last = mask_of(web, target)
    check_number(length, 0, _MOST_COUNTED)
    found = distances(web, first, SMALL_CLASS)
    counts = {first: 1}
    for _ in range(length):
        # A deed can be taken back, so the worlds behind one deed are also those before one.
        counts = {
            world: sum([counts.get(other, 0) for other in worlds_next(web, world)]) for world in list(found)
        }
    return counts.get(last, 0)


def farthest(web, awake):
    """The greatest of the fewest numbers of deeds from this world, and the worlds that have it."""
    found = distances(web, mask_of(web, awake), CLASS_LIMIT)
    number = max(list(found.values()))
    far = in_world_order([world for world in list(found) if found[world] == number])
    return (number, tell_all(web, far))


def diameter(web, awake):
    """The greatest of the fewest numbers of deeds between two worlds of the class, and the first such pair."""
    members = in_world_order(list(distances(web, mask_of(web, awake), SMALL_CLASS)))
    widest = (0, members[0], members[0])
    for first in members:
        found = distances(web, first, SMALL_CLASS)
        for last in members:
            if found[last] > widest[0]:
                widest = (found[last], first, last)
    return (widest[0], tell(web, widest[1]), tell(web, widest[2]))

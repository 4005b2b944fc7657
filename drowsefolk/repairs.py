"""Repairs: wrong sightings [68], changed needs and weights [69] [70], and watches that are cut [71]."""

from drowsefolk.checks import check_number, check_size, everybody, mask_of, rows_with_sum
from drowsefolk.diaries import Diary, diary_fits
from drowsefolk.errors import BadNumber, NoRepair, NoWatch, Repeated, SelfWatch, UnknownFolk
from drowsefolk.names import MOST_NUMBER, is_number
from drowsefolk.reach import one_class
from drowsefolk.webs import Web, pairs_in_order

_MOST_WRONG = 3
_MOST_DOUBTED = 6
_MOST_LOWERED = 4
_MOST_LOWERED_FOLK = 6
_MOST_LAID = 2
_MOST_LAID_FOLK = 5
_MOST_CUT = 2
_MOST_CUT_WATCHES = 12


def _choices(rows, number):
    """All choices of so many of the rows, each in the order of the rows, in Python's order of their places."""
    found = [()]
    for _ in range(number):
        found = [
            places + (place,) for places in found for place in range(len(rows)) if all([one < place for one in places])
        ]
    return [tuple([rows[place] for place in places]) for places in found]


def _blanked_at(diary, places):
    """The diary in which nothing is told at these moments."""
    sightings = [
        row[:2] + ((), ()) if place in places else row for place, row in enumerate(diary.sightings, start=1)
    ]
    return Diary(diary.web, diary.first_world, sightings)


def blanked(diary, places):
    """The diary in which the pictures of these sightings tell nothing; their bounds stay."""
    for at, place in enumerate(places):
        check_number(place, 1, len(diary))
        if place in places[:at]:
            raise Repeated(place)
    return _blanked_at(diary, places)


def _is_wrong(diary, places):
    """True if the diary fits when nothing is told at these moments."""
    return diary_fits(_blanked_at(diary, places))


def _is_thin_wrong(diary, places):
    """True if the moments are a wrong set that is none without any one of them."""
    if not _is_wrong(diary, places):
        return False
    return not any([_is_wrong(diary, [other for other in places if other != place]) for place in places])


def thin_wrong(diary, *, most=2):
    """All thin wrong sets with at most so many moments, smaller ones first."""
    check_number(most, 0, _MOST_WRONG)
    check_size("sightings", len(diary), _MOST_DOUBTED)
    moments = list(range(1, len(diary) + 1))
    sets = [places for number in range(most + 1) for places in _choices(moments, number)]
    return [places for places in sets if _is_thin_wrong(diary, places)]


def least_wrong(diary, *, most=2):
    """The thin wrong sets with the fewest moments."""
    found = thin_wrong(diary, most=most)
    if len(found) == 0:
        raise NoRepair(most)
    return [places for places in found if len(places) == len(found[0])]


def is_thin_wrong(diary, paper):
    """True if the moments of the paper are a thin wrong set."""
    for at, place in enumerate(paper):
        if not is_number(place, 1, len(diary)) or place in paper[:at]:
            return False
    return _is_thin_wrong(diary, paper)


def lowered(web, changes):
    """The web in which the needs of the named ones are less by the amounts."""
    amounts = {}
    for name, amount in changes:
        check_number(amount, 1, web.need(name))
        if name in amounts:
            raise Repeated(name)
        amounts[name] = amount
    return Web([(name, need - amounts.get(name, 0)) for name, need in web.folk], web.watches)


def laid(web, changes):
    """The web in which the weights of the named pairs are more by the amounts."""
    weights = {}
    for watcher, watched, amount in changes:
        weight = web.weight(watcher, watched)
        check_number(amount, 1, MOST_NUMBER)
        if watcher == watched:
            raise SelfWatch(watcher)
        check_number(amount, 1, MOST_NUMBER - weight)
        if (watcher, watched) in weights:
            raise Repeated((watcher, watched))
        weights[(watcher, watched)] = weight + amount
    kept = [row for row in web.watches if row[:2] not in weights]
    # More watches than a web may have are refused by Web itself.
    return Web(web.folk, kept + [pair + (weights[pair],) for pair in list(weights)])


def without_watches(web, pairs):
    """The web without the watches of these pairs."""
    struck = []
    for watcher, watched in pairs:
        if web.weight(watcher, watched) == 0:
            raise NoWatch(watcher, watched)
        if (watcher, watched) in struck:
            raise Repeated((watcher, watched))
        struck.append((watcher, watched))
    return Web(web.folk, [row for row in web.watches if row[:2] not in struck])


def _are_one_class(web, first, last):
    """True if the two worlds are of one class in this web."""
    return one_class(web, first, last, everybody(web))


def _lowerings(web, total):
    """All changes that lower needs by this total amount, in the order of their rows of amounts."""
    rows = [list(zip(web.folk, amounts)) for amounts in rows_with_sum(len(web.names), total)]
    return [
        tuple([(name, amount) for (name, _), amount in row if amount > 0])
        for row in rows if all([amount <= need for (_, need), amount in row])
    ]


def least_lowerings(web, awake, target, *, most=3):
    """All changes with the least total amount that bring two worlds into one class by lowering needs."""
    first = mask_of(web, awake)
    last = mask_of(web, target)
    check_number(most, 0, _MOST_LOWERED)
    check_size("folk", len(web.names), _MOST_LOWERED_FOLK)
    for total in range(most + 1):
        found = [changes for changes in _lowerings(web, total) if _are_one_class(lowered(web, changes), first, last)]
        if len(found) > 0:
            return found
    raise NoRepair(most)


def is_lowering(web, awake, target, paper):
    """True if the changes can be made and bring the two worlds into one class."""
    first = mask_of(web, awake)
    last = mask_of(web, target)
    try:
        light = lowered(web, paper)
    except (UnknownFolk, BadNumber, Repeated):
        return False
    return _are_one_class(light, first, last)


def _layings(web, total):
    """All changes that add this total amount to weights, in the order of their rows of amounts."""
    pairs = [(web.names[watcher], web.names[watched]) for watched, watcher in pairs_in_order(len(web.names))]
    found = []
    for amounts in rows_with_sum(len(pairs), total):
        changes = tuple([pair + (amount,) for pair, amount in zip(pairs, amounts) if amount > 0])
        if all([web.weight(watcher, watched) + amount <= MOST_NUMBER for watcher, watched, amount in changes]):
            found.append(changes)
    return found


def least_layings(web, awake, target, *, most=2):
    """All changes with the least total amount that bring two worlds into one class by adding to weights."""
    first = mask_of(web, awake)
    last = mask_of(web, target)
    check_number(most, 0, _MOST_LAID)
    check_size("folk", len(web.names), _MOST_LAID_FOLK)
    for total in range(most + 1):
        found = [changes for changes in _layings(web, total) if _are_one_class(laid(web, changes), first, last)]
        if len(found) > 0:
            return found
    raise NoRepair(most)


def least_cuts(web, awake, target, *, most=2):
    """All sets of the fewest watches without which the two worlds are of different classes."""
    first = mask_of(web, awake)
    last = mask_of(web, target)
    check_number(most, 0, _MOST_CUT)
    check_size("watches", len(web.watches), _MOST_CUT_WATCHES)
    pairs = [row[:2] for row in web.watches]
    for number in range(most + 1):
        cuts = _choices(pairs, number)
        found = [cut for cut in cuts if not _are_one_class(without_watches(web, cut), first, last)]
        if len(found) > 0:
            return found
    raise NoRepair(most)

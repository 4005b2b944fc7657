"""Webs that let the same deeds [48] [49] or have the same classes [50], and the lightest web [51]."""

from drowsefolk.checks import (
    check_same_names, check_size, everybody, mask_of, place_in, positions, rows_with_sum, size_of, subsets, tell,
    tell_all, without,
)
from drowsefolk.closing import closed_in_all
from drowsefolk.deeds import missing_at
from drowsefolk.names import KEEPER_LIMIT, LIGHT_LIMIT, SUBSET_LIMIT
from drowsefolk.nests import is_nest_mask, nest_masks
from drowsefolk.webs import Web


def _watcher_mask(web, place):
    """The mask of those who watch the one at this place."""
    return mask_of(web, web.watchers(web.names[place]))


def _is_keeper(web, group, place):
    """True if the group lets the one at this place turn, and nobody can be left out of it."""
    if missing_at(web, group, place) > 0:
        return False
    return all([missing_at(web, without(group, 1 << member), place) > 0 for member in positions(group)])


def keepers(web, name):
    """The least sets of watchers that let the named one turn, in world order."""
    place = place_in(web.names, name)
    watchers = _watcher_mask(web, place)
    check_size("watchers", size_of(watchers), KEEPER_LIMIT)
    return tell_all(web, [group for group in subsets(watchers) if _is_keeper(web, group, place)])


def _all_watchers(one, other):
    """For each of the folk the mask of those who watch them in either web; refuses other folk and too many watchers."""
    check_same_names(one.names, other.names)
    masks = [_watcher_mask(one, place) | _watcher_mask(other, place) for place in range(len(one.names))]
    check_size("watchers", max([size_of(mask) for mask in masks]), KEEPER_LIMIT)
    return masks


def deed_difference(one, other):
    """The first of the folk who may turn in one web alone, and the first world of it, or None."""
    for place, watchers in enumerate(_all_watchers(one, other)):
        # Who does not watch does not count, so that the first such world is a set of watchers.
        for group in subsets(watchers):
            if (missing_at(one, group, place) == 0) != (missing_at(other, group, place) == 0):
                return (tell(one, group), one.names[place])
    return None


def same_deeds(one, other):
    """True if in every world the same folk may turn in both webs."""
    return deed_difference(one, other) is None


def _check_comparable(one, other):
    """Refuses two webs of other folk or of too many."""
    check_same_names(one.names, other.names)
    check_size("folk", len(one.names), SUBSET_LIMIT)


def same_classes(one, other):
    """True if every two worlds are of one class in both webs or in neither."""
    _check_comparable(one, other)
    return nest_masks(one) == nest_masks(other)


def class_difference(one, other):
    """Two worlds that are of one class in exactly one of the webs, or None."""
    _check_comparable(one, other)
    for world in subsets(everybody(one)):
        first = closed_in_all(one, world)
        second = closed_in_all(other, world)
        if without(first, second) > 0:
            return (tell(one, world), tell(one, first))
        if first != second:
            return (tell(one, world), tell(one, second))
    return None


def is_finer(one, other):
    """True if every two worlds that are of one class in the first web are so in the second."""
    _check_comparable(one, other)
    return all([is_nest_mask(one, nest) for nest in nest_masks(other)])


def _group_sums(weights):
    """The weight of each group of watchers, the groups in the order of their masks."""
    return [sum([weights[at] for at in positions(group)]) for group in range(1 << len(weights))]


def _least_need(rights, weights):
    """The least need with which just those groups whose right is True let somebody turn; None if there is none."""
    sums = _group_sums(weights)
    need = max([0] + [weight + 1 for weight, right in zip(sums, rights) if not right])
    if all([weight >= need for weight, right in zip(sums, rights) if right]):
        return need
    return None


def _lightest_choice(rights, number):
    """The need and the weights with the least sum that give these rights to the groups of so many watchers."""
    choices = []
    total = 0
    while len(choices) == 0:
        rows = [(_least_need(rights, weights), weights) for weights in rows_with_sum(number, total)]
        choices = [row for row in rows if row[0] is not None]
        total = total + 1
    return min(choices)


def lightest(web):
    """The web that lets the same deeds with the least weights and needs."""
    check_size("watchers", max([len(web.watchers(name)) for name in web.names]), LIGHT_LIMIT)
    light_folk = []
    light_watches = []
    for name, need in web.folk:
        watchers = web.watchers(name)
        sums = _group_sums([web.weight(watcher, name) for watcher in watchers])
        least, weights = _lightest_choice([weight >= need for weight in sums], len(watchers))
        light_folk.append((name, least))
        light_watches.extend([(watcher, name, weight) for watcher, weight in zip(watchers, weights) if weight > 0])
    return Web(light_folk, light_watches)

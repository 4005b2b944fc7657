"""Webs [10], their worlds [11], and changed webs [12]."""

from drowsefolk.checks import (
    check_count, check_new_name, check_number, check_size, everybody, mask_of, place_in, subsets, tell, tell_all,
    without, world_order_key,
)
from drowsefolk.errors import BorderWatch, Repeated, SelfWatch
from drowsefolk.names import MOST_FOLK, MOST_NUMBER, MOST_WATCHES, SUBSET_LIMIT


def examined_folk(taken, folk):
    """The pairs (name, need) as a tuple of tuples, each one examined; none of the taken names may come again."""
    needs = {}
    for name, need in folk:
        check_new_name(name)
        check_number(need, 0, MOST_NUMBER)
        if name in taken or name in needs:
            raise Repeated(name)
        # str and int turn a value of a kind made from Python's own into one of Python's own kind.
        needs[str(name)] = int(need)
    return tuple([(name, need) for name, need in needs.items()])


def examined_watches(border, outer, watches):
    """The triples as a tuple of tuples in pair order, each one examined; none may be between two of the border."""
    check_count("watches", len(watches), 0, MOST_WATCHES)
    names = border + outer
    weights = {}
    for watcher, watched, weight in watches:
        watcher_place = place_in(names, watcher)
        watched_place = place_in(names, watched)
        check_number(weight, 1, MOST_NUMBER)
        if watcher_place == watched_place:
            raise SelfWatch(watcher)
        if watcher in border and watched in border:
            raise BorderWatch(watcher, watched)
        if (watched_place, watcher_place) in weights:
            raise Repeated((watcher, watched))
        weights[(watched_place, watcher_place)] = int(weight)
    return tuple([(names[pair[1]], names[pair[0]], weights[pair]) for pair in sorted(list(weights))])


def pairs_in_order(number):
    """All pairs (place of the watched, place of the watcher) of so many folk, in pair order."""
    return [(watched, watcher) for watched in range(number) for watcher in range(number) if watched != watcher]


def all_pulls(names, watches):
    """For each of the names the watches on them, each as (bit of the watcher, weight)."""
    return tuple([
        tuple([(1 << names.index(row[0]), row[2]) for row in watches if row[1] == name]) for name in names
    ])


class Web:
    """A small group of named folk and the watches among them; it never changes."""

    def __init__(self, folk, watches=()):
        check_count("folk", len(folk), 1, MOST_FOLK)
        self._folk = examined_folk((), folk)
        self._names = tuple([row[0] for row in self._folk])
        self._watches = examined_watches((), self._names, watches)
        self._pulls = all_pulls(self._names, self._watches)

    @property
    def names(self):
        """The names in folk order."""
        return self._names

    @property
    def folk(self):
        """The pairs (name, need) in folk order."""
        return self._folk

    @property
    def watches(self):
        """The triples (watcher, watched, weight) in pair order."""
        return self._watches

    def need(self, name):
        """The need of the named one."""
        return self.need_at(place_in(self._names, name))

    def weight(self, watcher, watched):
        """The weight of this watch; 0 if there is none."""
        bit = 1 << place_in(self._names, watcher)
        place = place_in(self._names, watched)
        return sum([weight for other, weight in self._pulls[place] if other == bit])

    def watchers(self, name):
        """Those who watch the named one, in folk order."""
        place_in(self._names, name)
        return tuple([row[0] for row in self._watches if row[1] == name])

    def watched_by(self, name):
        """Those whom the named one watches, in folk order."""
        place_in(self._names, name)
        return tuple([row[1] for row in self._watches if row[0] == name])

    def need_at(self, place):
        """The need of the one at this place of the folk order."""
        return self._folk[place][1]

    def pulls_at(self, place):
        """The watches on the one at this place, each as (bit of the watcher, weight)."""
        return self._pulls[place]

    def __eq__(self, other):
        return isinstance(other, Web) and self._folk == other._folk and self._watches == other._watches

    def __contains__(self, name):
        return name in self._names

    def __iter__(self):
        return iter(self._names)


def with_need(web, name, need):
    """The web in which the named one has this need."""
    place = place_in(web.names, name)
    check_number(need, 0, MOST_NUMBER)
    return Web(web.folk[:place] + ((name, need),) + web.folk[place + 1:], web.watches)


def with_watch(web, watcher, watched, weight):
    """The web in which this watch has this weight; weight 0 strikes it."""
    watcher_place = place_in(web.names, watcher)
    watched_place = place_in(web.names, watched)
    check_number(weight, 0, MOST_NUMBER)
    if watcher_place == watched_place:
        raise SelfWatch(watcher)
    watches = [row for row in web.watches if row[:2] != (watcher, watched)]
    if weight > 0:
        watches.append((watcher, watched, weight))
    # A twenty-fifth watch is refused by Web itself.
    return Web(web.folk, watches)


def with_folk(web, name, need):
    """The web with a new member, who comes last and without watches."""
    check_new_name(name)
    check_number(need, 0, MOST_NUMBER)
    if name in web:
        raise Repeated(name)
    # An eleventh member is refused by Web itself.
    return Web(web.folk + ((name, need),), web.watches)


def _kept_web(web, mask):
    """The web of these members and the watches among them; Web itself refuses a web of nobody."""
    kept = tell(web, mask)
    folk = [row for row in web.folk if row[0] in kept]
    return Web(folk, [row for row in web.watches if row[0] in kept and row[1] in kept])


def without_folk(web, name):
    """The web without the named one and without all watches from and to them."""
    bit = 1 << place_in(web.names, name)
    return _kept_web(web, without(everybody(web), bit))


def sub_web(web, names):
    """The web of the named folk, in folk order, and the watches among them."""
    return _kept_web(web, mask_of(web, names))


def world_of(web, awake):
    """The world of these names."""
    return tell(web, mask_of(web, awake))


def sleepers(web, awake):
    """All who are not awake, in folk order."""
    return tell(web, without(everybody(web), mask_of(web, awake)))


def differing(web, awake, target):
    """Those who are in exactly one of the two worlds, in folk order."""
    return tell(web, mask_of(web, awake) ^ mask_of(web, target))


def world_key(web, awake):
    """The number of the awake and the tuple of their places: the key of world order."""
    return world_order_key(mask_of(web, awake))


def all_worlds(web):
    """All worlds of the web in world order."""
    check_size("folk", len(web.names), SUBSET_LIMIT)
    return tell_all(web, subsets(everybody(web)))

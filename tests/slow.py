"""Slow reckonings by sets of names, deed by deed and world by world, that share nothing with the package."""

from tests.helpers import subsets

# What was searched once, as the same search is asked for by many tests.
KEPT = {}


def in_folk_order(web, names):
    """The names as a world is told."""
    return tuple(name for name in web.names if name in names)


def in_world_order(web, worlds):
    """The worlds in world order."""
    return sorted(worlds, key=lambda world: (len(world), tuple(sorted(web.names.index(name) for name in world))))


def worlds_of(web):
    """All worlds of the web in world order."""
    return in_world_order(web, subsets(web.names))


def weight_from(web, group, name):
    """The weight on the name from all of a group."""
    return sum(weight for watcher, watched, weight in web.watches if watched == name and watcher in group)


def may(web, world, name):
    """True if the name may turn in the world."""
    return weight_from(web, world, name) >= dict(web.folk)[name]


def behind(web, world, name):
    """The world in which the one name has turned."""
    return in_folk_order(web, set(world) ^ {name})


def distances_from(web, world, within=None):
    """Each world that comes of this one by deeds of the set alone, with the fewest deeds that lead to it."""
    key = (web.folk, web.watches, tuple(world), within)
    if key not in KEPT:
        KEPT[key] = _searched(web, world, within)
    return KEPT[key]


def _searched(web, world, within):
    """The same, searched deed by deed."""
    found = {in_folk_order(web, world): 0}
    row = list(found)
    while row:
        one = row.pop(0)
        for name in web.names:
            if may(web, one, name) and (within is None or name in within):
                other = behind(web, one, name)
                if other not in found:
                    found[other] = found[one] + 1
                    row.append(other)
    return found


def rows_of_deeds(web, awake, target, length):
    """All rows of exactly so many deeds from the one world to the other, in order of their places."""
    rows = [((), in_folk_order(web, awake))]
    for _ in range(length):
        rows = [
            (deeds + (name,), behind(web, world, name))
            for deeds, world in rows for name in web.names if may(web, world, name)
        ]
    return [deeds for deeds, world in rows if world == in_folk_order(web, target)]


def closure_of(web, world, within=None):
    """The greatest world that comes of this one by waking names of the set."""
    world = in_folk_order(web, world)
    for name in web.names:
        if name not in world and (within is None or name in within) and may(web, world, name):
            return closure_of(web, world + (name,), within)
    return world


def outside_of(web, names):
    """All folk who are not among the names."""
    return tuple(name for name in web.names if name not in names)


def is_nest_by_needs(web, names, guards=()):
    """True if each of the names needs more than the weight from all who are neither among them nor guarded."""
    others = [name for name in web.names if name not in names and name not in guards]
    return all(dict(web.folk)[name] > weight_from(web, others, name) for name in names)


def nests_of(web):
    """All nests of the web in world order."""
    return [names for names in worlds_of(web) if is_nest_by_needs(web, names)]


def classes_of(web):
    """All classes, each as the set of its worlds."""
    found = []
    for world in worlds_of(web):
        if not any(world in members for members in found):
            found.append(set(distances_from(web, world)))
    return found


def pairs_of_worlds(web):
    """All pairs of worlds."""
    return [(one, other) for one in worlds_of(web) for other in worlds_of(web)]

"""Closures, and the orders of waking that lead to them [21] [22]."""

from drowsefolk.checks import everybody, first_place, mask_of, mask_or_all, place_in, positions, tell, without
from drowsefolk.deeds import missing_at
from drowsefolk.errors import Outside


def check_inside(web, world, allowed):
    """Refuses a world in which somebody is awake who is not among the allowed."""
    left = without(world, allowed)
    if left > 0:
        raise Outside(web.names[first_place(left)])


def _examined(web, awake, within):
    """The masks of the world and of those who may wake, each one examined."""
    world = mask_of(web, awake)
    allowed = mask_or_all(web, within)
    check_inside(web, world, allowed)
    return (world, allowed)


def ready_places(web, world, allowed):
    """The places of the allowed sleepers who may turn, ascending."""
    return [place for place in positions(without(allowed, world)) if missing_at(web, world, place) == 0]


def with_places(world, places):
    """The mask of the world in which those at these places are awake too."""
    for place in places:
        world = world | 1 << place
    return world


def waking_places(web, world, allowed):
    """The places of those who wake, in the waking order."""
    places = []
    ready = ready_places(web, world, allowed)
    while len(ready) > 0:
        places.append(ready[0])
        world = with_places(world, ready[:1])
        ready = ready_places(web, world, allowed)
    return places


def round_places(web, world, allowed):
    """The places of those who wake, round by round."""
    rounds = []
    ready = ready_places(web, world, allowed)
    while len(ready) > 0:
        rounds.append(ready)
        world = with_places(world, ready)
        ready = ready_places(web, world, allowed)
    return rounds


def closed(web, world, allowed):
    """The mask of the greatest world that comes of this one by waking the allowed alone."""
    for places in round_places(web, world, allowed):
        world = with_places(world, places)
    return world


def closed_in_all(web, world):
    """The mask of the closure in the whole web; all worlds of a class have the same one [25]."""
    return closed(web, world, everybody(web))


def closure(web, awake, *, within=None):
    """The closure of the world, within a set if one is told."""
    world, allowed = _examined(web, awake, within)
    return tell(web, closed(web, world, allowed))


def waking_order(web, awake, *, within=None):
    """The names in the order in which they wake, always the first in folk order who may."""
    world, allowed = _examined(web, awake, within)
    return tuple([web.names[place] for place in waking_places(web, world, allowed)])


def waking_rounds(web, awake, *, within=None):
    """The rounds of waking: in each one all who may turn wake together."""
    world, allowed = _examined(web, awake, within)
    return [tuple([web.names[place] for place in places]) for places in round_places(web, world, allowed)]


def world_woken(web, world, names, allowed):
    """The mask behind the waking of a paper, or None if one is unknown or cannot wake when reached."""
    for name in names:
        if name not in web:
            return None
        place = place_in(web.names, name)
        if place not in ready_places(web, world, allowed):
            return None
        world = with_places(world, [place])
    return world


def is_waking_order(web, awake, target, paper, *, within=None):
    """True if the names of the paper can wake one after the other, and lead to the target."""
    world = mask_of(web, awake)
    goal = mask_of(web, target)
    allowed = mask_or_all(web, within)
    check_inside(web, world, allowed)
    return world_woken(web, world, paper, allowed) == goal

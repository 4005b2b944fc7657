"""Who may turn in a world, and what rows of deeds lead to [17] [18]."""

from drowsefolk.checks import check_count, mask_of, place_in, tell
from drowsefolk.errors import TooLight
from drowsefolk.names import MOST_DEEDS


def weight_at(web, world, place):
    """The weight on the one at this place, in the world of this mask."""
    return sum([weight for bit, weight in web.pulls_at(place) if world & bit > 0])


def missing_at(web, world, place):
    """The missing weight of the one at this place, in the world of this mask."""
    return max(0, web.need_at(place) - weight_at(web, world, place))


def turned_at(web, world, place, deed_place):
    """The mask behind the deed of the one at this place; refuses it with its place in the row of deeds."""
    lack = missing_at(web, world, place)
    if lack > 0:
        raise TooLight(web.names[place], lack, deed_place)
    return world ^ (1 << place)


def deed_places(web, deeds):
    """The places of those who turn, deed by deed; refuses too many deeds and unknown names."""
    check_count("deeds", len(deeds), 0, MOST_DEEDS)
    return [place_in(web.names, name) for name in deeds]


def world_row(web, world, places):
    """The masks of the first world and of those behind each deed; refuses a deed that is not allowed."""
    row = [world]
    for at, place in enumerate(places, start=1):
        world = turned_at(web, world, place, at)
        row.append(world)
    return row


def world_after(web, world, names):
    """The mask behind the deeds of a paper, however many, or None if one is unknown or not allowed."""
    for name in names:
        if name not in web:
            return None
        place = place_in(web.names, name)
        if missing_at(web, world, place) > 0:
            return None
        world = world ^ (1 << place)
    return world


def world_behind(web, world, names):
    """The mask behind the deeds of a history in a paper, or None if they are too many or cannot be done."""
    if len(names) > MOST_DEEDS:
        return None
    return world_after(web, world, names)


def weight_on(web, awake, name):
    """The weight on the named one from those who are awake."""
    world = mask_of(web, awake)
    return weight_at(web, world, place_in(web.names, name))


def missing(web, awake, name):
    """The weight that the named one lacks to be able to turn."""
    world = mask_of(web, awake)
    return missing_at(web, world, place_in(web.names, name))


def may_turn(web, awake, name):
    """True if the named one may turn, else False."""
    world = mask_of(web, awake)
    return missing_at(web, world, place_in(web.names, name)) == 0


def turners(web, awake):
    """All who may turn, awake or asleep, in folk order."""
    world = mask_of(web, awake)
    return tuple([name for place, name in enumerate(web.names) if missing_at(web, world, place) == 0])


def turn(web, awake, name):
    """The world behind the deed of the named one."""
    world = mask_of(web, awake)
    return tell(web, turned_at(web, world, place_in(web.names, name), 1))


def replay(web, awake, deeds):
    """The world behind all deeds."""
    world = mask_of(web, awake)
    return tell(web, world_row(web, world, deed_places(web, deeds))[-1])


def walk(web, awake, deeds):
    """Gives the world of the awake and then the world behind each deed, one by one."""
    world = mask_of(web, awake)
    places = deed_places(web, deeds)
    yield tell(web, world)
    for at, place in enumerate(places, start=1):
        world = turned_at(web, world, place, at)
        yield tell(web, world)

"""Pictures: which worlds of a class fit what is told of some folk [36] to [40]."""

from drowsefolk.checks import (
    check_size, everybody, first_place, has_form, in_world_order, mask_of, positions, size_of, subsets, tell, tell_all,
    with_fewest, without,
)
from drowsefolk.closing import closed_in_all
from drowsefolk.deeds import world_behind
from drowsefolk.errors import Contrary, NoFit
from drowsefolk.names import SUBSET_LIMIT
from drowsefolk.nests import greatest_nest_mask, nest_in_paper
from drowsefolk.reach import deeds_between


def examined_picture(web, told_awake, told_asleep):
    """The masks of both parts of the picture; refuses somebody who is in both parts."""
    up = mask_of(web, told_awake)
    down = mask_of(web, told_asleep)
    if up & down > 0:
        raise Contrary(web.names[first_place(up & down)])
    return (up, down)


def is_pictured(world, up, down):
    """True if the world of this mask fits the picture."""
    return without(up, world) == 0 and world & down == 0


def _examined(web, awake, told_awake, told_asleep):
    """The masks of the world and of both parts of the picture, each one examined."""
    world = mask_of(web, awake)
    up, down = examined_picture(web, told_awake, told_asleep)
    return (world, up, down)


def _rest(web, world, down):
    """The mask of the closure without those who are told asleep: the greatest fit, if there is one."""
    return without(closed_in_all(web, world), down)


def _has_fit(web, world, up, down):
    """True if the picture fits the class of the world."""
    whole = closed_in_all(web, world)
    return without(up, whole) == 0 and closed_in_all(web, _rest(web, world, down)) == whole


def _nests_against(web, world, up, down):
    """The two nests that show that the picture does not fit, as they are told."""
    avoided = greatest_nest_mask(web, world)
    if avoided & up > 0:
        return (tell(web, avoided), ())
    return (tell(web, avoided), tell(web, greatest_nest_mask(web, _rest(web, world, down))))


def _check_fit(web, world, up, down):
    """Refuses a picture that does not fit."""
    if not _has_fit(web, world, up, down):
        avoided, met = _nests_against(web, world, up, down)
        raise NoFit(avoided, met)


def _surely_awake(web, world, up, down):
    """The mask of those who are awake in every fitting world."""
    whole = closed_in_all(web, world)
    rest = _rest(web, world, down)
    mask = up
    for place in positions(rest):
        if closed_in_all(web, without(rest, 1 << place)) != whole:
            mask = mask | 1 << place
    return mask


def _fit_masks(web, world, up, down):
    """The masks of all fitting worlds in world order; refuses too many open folk, if the picture fits."""
    if not _has_fit(web, world, up, down):
        return []
    whole = closed_in_all(web, world)
    least = _surely_awake(web, world, up, down)
    free = without(_rest(web, world, down), least)
    check_size("open", size_of(free), SUBSET_LIMIT)
    worlds = [least | part for part in subsets(free)]
    return in_world_order([one for one in worlds if closed_in_all(web, one) == whole])


def fits(web, awake, told_awake, told_asleep):
    """True if some world of the class fits the picture."""
    world, up, down = _examined(web, awake, told_awake, told_asleep)
    return _has_fit(web, world, up, down)


def greatest_fit(web, awake, told_awake, told_asleep):
    """The fitting world of which all fitting worlds are part."""
    world, up, down = _examined(web, awake, told_awake, told_asleep)
    _check_fit(web, world, up, down)
    return tell(web, _rest(web, world, down))


def fit_paper(web, awake, told_awake, told_asleep):
    """A paper that shows whether the picture fits the class."""
    world, up, down = _examined(web, awake, told_awake, told_asleep)
    if _has_fit(web, world, up, down):
        return ("history", deeds_between(web, world, _rest(web, world, down), everybody(web)))
    avoided, met = _nests_against(web, world, up, down)
    return ("nests", avoided, met)


def _leads_to_fit(web, world, up, down, names):
    """True if the names are the deeds of a history to a world that fits the picture."""
    end = world_behind(web, world, names)
    return end is not None and is_pictured(end, up, down)


def _are_nests_against(web, world, up, down, avoided_names, met_names):
    """True if the two lists of names show that the picture does not fit."""
    avoided = nest_in_paper(web, avoided_names)
    if avoided is None or avoided & world > 0:
        return False
    if avoided & up > 0:
        # Nothing at all is asked of the other names then.
        return True
    met = nest_in_paper(web, met_names)
    return met is not None and met & world > 0 and without(met, avoided | down) == 0


def is_fit_paper(web, awake, told_awake, told_asleep, paper):
    """True if the paper shows that the picture fits the class, or that it does not."""
    world, up, down = _examined(web, awake, told_awake, told_asleep)
    if has_form(paper, "history", 2):
        return _leads_to_fit(web, world, up, down, paper[1])
    return has_form(paper, "nests", 3) and _are_nests_against(web, world, up, down, paper[1], paper[2])


def sure(web, awake, told_awake, told_asleep):
    """Those who are awake in every fitting world, those who are asleep in every one, and the others."""
    world, up, down = _examined(web, awake, told_awake, told_asleep)
    _check_fit(web, world, up, down)
    rest = _rest(web, world, down)
    least = _surely_awake(web, world, up, down)
    return (tell(web, least), tell(web, without(everybody(web), rest)), tell(web, without(rest, least)))


def list_fits(web, awake, told_awake, told_asleep):
    """All worlds of the class that fit the picture, in world order."""
    world, up, down = _examined(web, awake, told_awake, told_asleep)
    return tell_all(web, _fit_masks(web, world, up, down))


def count_fits(web, awake, told_awake, told_asleep):
    """The number of worlds of the class that fit the picture."""
    world, up, down = _examined(web, awake, told_awake, told_asleep)
    return len(_fit_masks(web, world, up, down))


def least_fits(web, awake, told_awake, told_asleep):
    """The fitting worlds with the fewest awake; refuses a picture that does not fit."""
    world, up, down = _examined(web, awake, told_awake, told_asleep)
    _check_fit(web, world, up, down)
    return tell_all(web, with_fewest(_fit_masks(web, world, up, down)))

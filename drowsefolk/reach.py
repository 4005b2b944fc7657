"""What comes of a world by deeds [25] to [28], also while some folk are guarded [29], and who is needed [30]."""

from drowsefolk.checks import everybody, first_place, has_form, mask_of, paper_mask, positions, tell, without
from drowsefolk.closing import closed, waking_places
from drowsefolk.deeds import world_behind
from drowsefolk.errors import NotOneClass, Outside
from drowsefolk.histories import History
from drowsefolk.nests import nest_in_paper, stays_asleep


def one_class(web, first, last, allowed):
    """True if the last world comes of the first while only the allowed are awake in any world."""
    return closed(web, first, allowed) == closed(web, last, allowed)


def _parting_mask(web, first, last, allowed):
    """The mask of the nest told that parts two worlds which are not of one class within the allowed."""
    nest = without(allowed, closed(web, first, allowed))
    if nest & last > 0:
        return nest
    return without(allowed, closed(web, last, allowed))


def check_one_class(web, first, last, allowed):
    """Refuses two worlds that are not of one class within the allowed."""
    if not one_class(web, first, last, allowed):
        raise NotOneClass(tell(web, _parting_mask(web, first, last, allowed)))


def deeds_between(web, first, last, allowed):
    """Wakes the waking order of the first world, then lets sleep that of the last world backwards."""
    places = waking_places(web, first, allowed) + waking_places(web, last, allowed)[::-1]
    return tuple([web.names[place] for place in places])


def history_between(web, first, last, allowed):
    """The history of these deeds; refuses two worlds that are not of one class within the allowed."""
    check_one_class(web, first, last, allowed)
    return History(web, tell(web, first), deeds_between(web, first, last, allowed))


def _answer_between(web, first, last, allowed):
    """The deeds between the two worlds, or the nest that parts them within the allowed, as an answer paper."""
    if one_class(web, first, last, allowed):
        return ("history", deeds_between(web, first, last, allowed))
    return ("nest", tell(web, _parting_mask(web, first, last, allowed)))


def _parts(nest, first, last):
    """True if there is a nest and exactly one of the two worlds avoids it."""
    return nest is not None and (nest & first == 0) != (nest & last == 0)


def same_class(web, awake, target):
    """True if the target comes of the world by deeds."""
    first = mask_of(web, awake)
    return one_class(web, first, mask_of(web, target), everybody(web))


def path(web, awake, target):
    """The history from the world to the target by way of the closure of both."""
    first = mask_of(web, awake)
    return history_between(web, first, mask_of(web, target), everybody(web))


def parting_nest(web, awake, target):
    """A nest that exactly one of the two worlds avoids, or None if they are of one class."""
    first = mask_of(web, awake)
    last = mask_of(web, target)
    if one_class(web, first, last, everybody(web)):
        return None
    return tell(web, _parting_mask(web, first, last, everybody(web)))


def is_parting_nest(web, awake, target, paper):
    """True if the names of the paper form a nest that exactly one of the two worlds avoids."""
    first = mask_of(web, awake)
    last = mask_of(web, target)
    return _parts(nest_in_paper(web, paper), first, last)


def answer(web, awake, target):
    """A paper that shows whether the target comes of the world."""
    first = mask_of(web, awake)
    return _answer_between(web, first, mask_of(web, target), everybody(web))


def is_answer(web, awake, target, paper):
    """True if the paper is a history from the world to the target, or a nest that parts them."""
    first = mask_of(web, awake)
    last = mask_of(web, target)
    if has_form(paper, "history", 2):
        return world_behind(web, first, paper[1]) == last
    return has_form(paper, "nest", 2) and _parts(nest_in_paper(web, paper[1]), first, last)


def _guarded(web, awake, target, names):
    """The masks of both worlds and of the folk who are not guarded; refuses a guarded one who is awake."""
    first = mask_of(web, awake)
    last = mask_of(web, target)
    guards = mask_of(web, names)
    if guards & (first | last) > 0:
        raise Outside(web.names[first_place(guards & (first | last))])
    return (first, last, without(everybody(web), guards))


def guarded_class(web, awake, target, names):
    """True if there is a history between the worlds in which none of the names is ever awake."""
    first, last, allowed = _guarded(web, awake, target, names)
    return one_class(web, first, last, allowed)


def guarded_path(web, awake, target, names):
    """A history between the worlds in which none of the names is ever awake."""
    first, last, allowed = _guarded(web, awake, target, names)
    return history_between(web, first, last, allowed)


def _guard_nest_in_paper(web, allowed, paper):
    """The mask of a guard nest in a paper, or None if its names are no guard nest."""
    nest = paper_mask(web, paper)
    if nest is None or without(nest, allowed) > 0 or not stays_asleep(web, nest, without(allowed, nest)):
        return None
    return nest


def is_guard_nest(web, names, paper):
    """True if the names of the paper form a guard nest for the guarded names."""
    allowed = without(everybody(web), mask_of(web, names))
    return _guard_nest_in_paper(web, allowed, paper) is not None


def guard_answer(web, awake, target, names):
    """A paper that shows whether there is a guarded history."""
    first, last, allowed = _guarded(web, awake, target, names)
    return _answer_between(web, first, last, allowed)


def is_guard_answer(web, awake, target, names, paper):
    """True if the paper is the deeds of a guarded history, or a guard nest that parts the worlds."""
    first, last, allowed = _guarded(web, awake, target, names)
    if has_form(paper, "history", 2):
        # The guarded sleep at first, so that one of them is awake at some time exactly if one of them turns.
        turns_guarded = any([name in paper[1] for name in tell(web, without(everybody(web), allowed))])
        return world_behind(web, first, paper[1]) == last and not turns_guarded
    return has_form(paper, "nest", 2) and _parts(_guard_nest_in_paper(web, allowed, paper[1]), first, last)


def _needed_mask(web, first, last):
    """The mask of those who are awake in some world of each history between the worlds."""
    check_one_class(web, first, last, everybody(web))
    mask = first | last
    for place in positions(without(everybody(web), first | last)):
        if not one_class(web, first, last, without(everybody(web), 1 << place)):
            mask = mask | 1 << place
    return mask


def needed(web, awake, target):
    """Those who are awake in some world of each history between the worlds."""
    first = mask_of(web, awake)
    return tell(web, _needed_mask(web, first, mask_of(web, target)))


def must_turn(web, awake, target):
    """Those who turn in each history between the worlds."""
    first = mask_of(web, awake)
    last = mask_of(web, target)
    # Somebody awake in both worlds is needed, but the path lets them be.
    return tell(web, without(_needed_mask(web, first, last), first & last))

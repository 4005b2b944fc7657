"""Diaries: what was seen of a web at some moments [62], and the runs that explain it [63] to [67]."""

from drowsefolk.checks import (
    check_count, check_number, check_size, everybody, first_place, in_world_order, mask_of, paper_mask, tell, tell_all,
    without,
)
from drowsefolk.deeds import world_after
from drowsefolk.errors import Misfit
from drowsefolk.fewest import distances, worlds_next
from drowsefolk.names import MOST_GAP, MOST_SIGHTINGS, SMALL_CLASS
from drowsefolk.pictures import examined_picture, is_pictured
from drowsefolk.webs import all_worlds

_MOST_STARTERS = 5


def _examined_sighting(web, least, most, told_awake, told_asleep):
    """The sighting with its sets told in folk order, each part examined."""
    check_number(least, 0, MOST_GAP)
    if most is not None:
        check_number(most, least, MOST_GAP)
    up, down = examined_picture(web, told_awake, told_asleep)
    return (int(least), most if most is None else int(most), tell(web, up), tell(web, down))


def _examined_sightings(web, sightings):
    """The sightings as a tuple of tuples, each one examined."""
    check_count("sightings", len(sightings), 0, MOST_SIGHTINGS)
    return tuple([
        _examined_sighting(web, least, most, told_awake, told_asleep)
        for least, most, told_awake, told_asleep in sightings
    ])


class Diary:
    """A web, a first world and a row of sightings; it never changes."""

    def __init__(self, web, awake, sightings):
        first = mask_of(web, awake)
        self._sightings = _examined_sightings(web, sightings)
        self._web = web
        self._first = tell(web, first)
        found = distances(web, first, SMALL_CLASS)
        self._next = {world: tuple(worlds_next(web, world)) for world in list(found)}

    @property
    def web(self):
        """The web of the diary."""
        return self._web

    @property
    def first_world(self):
        """The world before all sightings."""
        return self._first

    @property
    def sightings(self):
        """The sightings (least, most, told awake, told asleep) in order."""
        return self._sightings

    def members(self):
        """The masks of all worlds of the class of the first world."""
        return list(self._next)

    def next_to(self, world):
        """The masks of the worlds behind one deed from a member of the class."""
        return self._next[world]

    def __len__(self):
        return len(self._sightings)

    def __eq__(self, other):
        if not isinstance(other, Diary):
            return False
        return self._web == other._web and self._first == other._first and self._sightings == other._sightings


def _gaps(diary):
    """For each sighting its bounds and the masks of both parts of its picture."""
    return [
        (least, most, mask_of(diary.web, told_awake), mask_of(diary.web, told_asleep))
        for least, most, told_awake, told_asleep in diary.sightings
    ]


def _reached(diary, worlds, gap):
    """The masks of the worlds that come of some of these by a number of deeds within the bounds."""
    least, most = gap[:2]
    if most is None and len(diary.members()) > 1:
        return diary.members() if len(worlds) > 0 else []
    found = {}
    # In a class of one member no deed is possible, so that there only the least number counts.
    for number in range((least if most is None else most) + 1):
        if number >= least:
            found.update({world: True for world in worlds})
        worlds = list({other: True for world in worlds for other in diary.next_to(world)})
    return list(found)


def _seen(diary, worlds, gap):
    """Those of the worlds reached that fit the picture, in world order."""
    return in_world_order([world for world in _reached(diary, worlds, gap) if is_pictured(world, gap[2], gap[3])])


def _layer_masks(diary):
    """The masks of the worlds of each layer, up to the first empty one."""
    rows = [[mask_of(diary.web, diary.first_world)]]
    for gap in _gaps(diary):
        if len(rows[-1]) > 0:
            rows.append(_seen(diary, rows[-1], gap))
    return rows


def layers(diary):
    """For each moment the worlds that the sightings up to it allow, up to the first moment that allows none."""
    return [tell_all(diary.web, row) for row in _layer_masks(diary)]


def first_misfit(diary):
    """The first moment that allows no world; 0 if there is none."""
    rows = _layer_masks(diary)
    return len(rows) - 1 if len(rows[-1]) == 0 else 0


def diary_fits(diary):
    """True if the diary has a run."""
    return first_misfit(diary) == 0


def _check_fit(diary):
    """Refuses a diary that has no run."""
    place = first_misfit(diary)
    if place > 0:
        raise Misfit(place)


def _possible_masks(diary):
    """For each moment the masks of the worlds at which some run of the whole diary stands."""
    _check_fit(diary)
    rows = _layer_masks(diary)
    gaps = _gaps(diary)
    kept = [rows[-1]]
    for place in reversed(range(len(gaps))):
        # A row of deeds leads back when it is done in reverse.
        back = _reached(diary, kept[0], gaps[place])
        kept = [[world for world in rows[place] if world in back]] + kept
    return kept


def possible(diary):
    """For each moment the worlds at which some run of the whole diary stands."""
    return [tell_all(diary.web, row) for row in _possible_masks(diary)]


def _certain_in(web, worlds):
    """Those who are awake in all of the worlds, those who are asleep in all, and the others."""
    every = everybody(web)
    some = 0
    for world in worlds:
        every = every & world
        some = some | world
    return (tell(web, every), tell(web, without(everybody(web), some)), tell(web, without(some, every)))


def certain(diary):
    """For each moment those who are surely awake, those who are surely asleep, and the others."""
    return [_certain_in(diary.web, row) for row in _possible_masks(diary)]


def _behind_deed(diary, gaps, state, run):
    """The states behind one more deed, each with its run; a state is (sightings passed, deeds since, world)."""
    place, number, world = state
    least, most = gaps[place][:2]
    if number == most:
        return []
    # Without an upper bound, numbers of deeds from the least one on need not be told apart.
    more = min(number + 1, least) if most is None else number + 1
    return [
        ((place, more, other), run[:-1] + (run[-1] + (diary.web.names[first_place(world ^ other)],),))
        for other in diary.next_to(world)
    ]


def _behind_sightings(gaps, state, run):
    """The state with its run, and those behind each sighting that can be passed without a deed."""
    rows = [(state, run)]
    place, number, world = state
    while place < len(gaps) and number >= gaps[place][0] and is_pictured(world, gaps[place][2], gaps[place][3]):
        place = place + 1
        number = 0
        run = run + ((),)
        rows.append(((place, number, world), run))
    return rows


def _new_states(found, pairs):
    """The states of these pairs of a state and a run that are not found yet, each with its first run."""
    fresh = {}
    for state, run in pairs:
        if state not in found and state not in fresh:
            fresh[state] = run
    return fresh


def _states_beyond(diary, gaps, edge):
    """The states behind one deed, and then behind sightings, from those of the edge, each with its run."""
    behind = [row for state in list(edge) for row in _behind_deed(diary, gaps, state, edge[state])]
    return [row for state, run in behind for row in _behind_sightings(gaps, state, run)]


def _ended_runs(edge, gaps):
    """The runs of those of the states that stand behind the last sighting."""
    return [edge[state] for state in list(edge) if state[0] == len(gaps)]


def shortest_run(diary):
    """A run with the least number of deeds in all."""
    _check_fit(diary)
    gaps = _gaps(diary)
    start = (0, 0, mask_of(diary.web, diary.first_world))
    found = {}
    edge = _new_states(found, _behind_sightings(gaps, start, ((),)))
    while len(_ended_runs(edge, gaps)) == 0:
        for state in list(edge):
            found[state] = True
        edge = _new_states(found, _states_beyond(diary, gaps, edge))
    # The last row of deeds stands behind the last sighting and is empty.
    return list(_ended_runs(edge, gaps)[0][:-1])


def find_run(diary):
    """A run of the diary."""
    return shortest_run(diary)


def least_deeds(diary):
    """The least number of deeds of a run."""
    return sum([len(names) for names in shortest_run(diary)])


def is_run(diary, paper):
    """True if the lists of names are a run of the diary."""
    if len(paper) != len(diary):
        return False
    world = mask_of(diary.web, diary.first_world)
    for names, gap in zip(paper, _gaps(diary)):
        least, most, up, down = gap
        if len(names) < least or most is not None and len(names) > most:
            return False
        world = world_after(diary.web, world, names)
        if world is None or not is_pictured(world, up, down):
            return False
    return True


def _listed_masks(diary, worlds):
    """The masks of a list of worlds in a paper, or None if one is wrong, of another class, or stands twice."""
    masks = [paper_mask(diary.web, names) for names in worlds]
    members = diary.members()
    if not all([mask in members and masks.count(mask) == 1 for mask in masks]):
        return None
    return masks


def is_layer_paper(diary, place, paper):
    """True if the lists of worlds show that the sightings up to this moment have no run."""
    check_number(place, 1, len(diary))
    if len(paper) != place + 1 or len(paper[-1]) > 0:
        return False
    lists = [_listed_masks(diary, worlds) for worlds in paper]
    if None in lists or mask_of(diary.web, diary.first_world) not in lists[0]:
        return False
    gaps = _gaps(diary)[:place]
    rows = [(_seen(diary, lists[at], gap), lists[at + 1]) for at, gap in enumerate(gaps)]
    return all([world in listed for due, listed in rows for world in due])


def fitting_starts(web, sightings):
    """The worlds from which a diary with these sightings fits."""
    _examined_sightings(web, sightings)
    check_size("folk", len(web.names), _MOST_STARTERS)
    return [world for world in all_worlds(web) if diary_fits(Diary(web, world, sightings))]

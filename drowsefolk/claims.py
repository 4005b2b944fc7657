"""Claims about a web [77], the verdicts of papers on them, and the papers that the program finds [78]."""

from drowsefolk.checks import check_number, has_form, mask_of, tell
from drowsefolk.classes import droppable_places, is_thin_paper, thin_paper
from drowsefolk.deeds import world_behind
from drowsefolk.errors import BadClaim
from drowsefolk.fewest import distance_table, fewest, fewest_history, is_bound_table
from drowsefolk.names import MOST_DEEDS
from drowsefolk.pictures import examined_picture, fit_paper, is_fit_paper
from drowsefolk.reach import answer, is_answer, path, same_class

# The number of lists of names in a claim of each word.
_LISTS = {"reach": 2, "within": 2, "fits": 3, "thin": 1}
_YES_WORDS = ("history", "thin")


def _check_word(claim):
    """Refuses a claim whose word is not known."""
    if claim[0] not in _LISTS:
        raise BadClaim(claim[0])


def _check_claim(web, claim):
    """Refuses a claim that is wrong for this web, by its first part at fault."""
    _check_word(claim)
    for names in claim[1:1 + _LISTS[claim[0]]]:
        mask_of(web, names)
    if claim[0] == "within":
        check_number(claim[3], 0, MOST_DEEDS - 1)
    if claim[0] == "fits":
        examined_picture(web, claim[2], claim[3])


def _is_within_paper(web, claim, paper):
    """True if the paper is right for a claim that a world comes of another one by so many deeds."""
    if has_form(paper, "table", 2):
        return is_bound_table(web, claim[1], claim[2], paper[1], claim[3] + 1)
    if has_form(paper, "history", 2) and len(paper[1]) > claim[3]:
        return False
    return is_answer(web, claim[1], claim[2], paper)


def _is_drop(web, world, name, names):
    """True if the name is awake and the names are the deeds of a history to the world without this one."""
    if name not in tell(web, world):
        return False
    return world_behind(web, world, names) == world ^ mask_of(web, [name])


def _is_thinness_paper(web, claim, paper):
    """True if the paper is right for a claim that a world is thin."""
    if has_form(paper, "drop", 3):
        return _is_drop(web, mask_of(web, claim[1]), paper[1], paper[2])
    return has_form(paper, "thin", 2) and is_thin_paper(web, claim[1], paper[1])


def _is_right(web, claim, paper):
    """True if the paper is a right yes-paper or a right no-paper of the claim."""
    if claim[0] == "reach":
        return is_answer(web, claim[1], claim[2], paper)
    if claim[0] == "within":
        return _is_within_paper(web, claim, paper)
    if claim[0] == "fits":
        return is_fit_paper(web, claim[1], claim[2], claim[3], paper)
    return _is_thinness_paper(web, claim, paper)


def verdict(web, claim, paper):
    """Whether the paper shows that the claim is true, that it is not, or neither."""
    _check_claim(web, claim)
    if not _is_right(web, claim, paper):
        return "bad"
    return "yes" if paper[0] in _YES_WORDS else "no"


def _paper_within(web, awake, target, most):
    """A paper that shows whether the target comes of the world by so many deeds."""
    if not same_class(web, awake, target):
        return answer(web, awake, target)
    if fewest(web, awake, target) <= most:
        return ("history", fewest_history(web, awake, target).deeds)
    return ("table", tuple(distance_table(web, awake)))


def _paper_thin(web, awake):
    """A paper that shows whether the world is thin."""
    world = mask_of(web, awake)
    places = droppable_places(web, world)
    if len(places) == 0:
        return ("thin", tuple(thin_paper(web, awake)))
    rest = tell(web, world ^ (1 << places[0]))
    return ("drop", web.names[places[0]], path(web, awake, rest).deeds)


def find_paper(web, claim):
    """A right paper of the claim."""
    _check_claim(web, claim)
    if claim[0] == "reach":
        return answer(web, claim[1], claim[2])
    if claim[0] == "within":
        return _paper_within(web, claim[1], claim[2], claim[3])
    if claim[0] == "fits":
        return fit_paper(web, claim[1], claim[2], claim[3])
    return _paper_thin(web, claim[1])


def claim_names(claim):
    """All unlike names in the claim, in alphabetical order."""
    _check_word(claim)
    # str turns a text of a kind made from Python's own into one of Python's own kind.
    found = {str(name): True for names in claim[1:1 + _LISTS[claim[0]]] for name in names}
    return tuple(sorted(list(found)))

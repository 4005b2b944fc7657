"""Points 77 and 78, and point 7 for the papers of claims."""

import copy
import itertools

from drowsefolk.claims import claim_names, find_paper, verdict
from drowsefolk.errors import BadClaim, BadNumber, Contrary, Repeated, TooLarge, UnknownFolk
from drowsefolk.fewest import distance_table, fewest_history
from drowsefolk.nests import greatest_nest
from drowsefolk.pictures import fit_paper
from drowsefolk.reach import answer, parting_nest, path
from drowsefolk.webs import Web, all_worlds
from tests.helpers import Case, Row, Text, example_web, kinds, plain_web, small_webs, subsets
from tests.slow import (
    behind, closure_of, distances_from, in_folk_order, is_nest_by_needs, may, outside_of,
)

EXAMPLE = example_web()
CLAIMS = (
    ("reach", ["b"], ["a", "c"]), ("within", ["b"], ["a", "c"], 3), ("fits", ["b"], ["c"], ["d"]), ("thin", ["b"]),
)


def world_behind_all(web, world, names):
    """The world behind the names, or None if they are too many or one cannot be done."""
    if len(names) > 200 or not set(names) <= set(web.names):
        return None
    for name in names:
        if not may(web, world, name):
            return None
        world = behind(web, world, name)
    return in_folk_order(web, world)


def is_parting(web, one, other, names):
    """True if the names are unlike and form a nest that exactly one of the worlds avoids."""
    if not set(names) <= set(web.names) or len(set(names)) < len(names) or not is_nest_by_needs(web, names):
        return False
    return bool(set(names) & set(one)) != bool(set(names) & set(other))


def is_table(web, one, other, rows, bound):
    """True if the rows are a bound table."""
    numbers = {}
    for names, number in rows:
        world = in_folk_order(web, names)
        if len(world) < len(names) or world in numbers or isinstance(number, bool):
            return False
        numbers[world] = number
    if len(rows) > 400 or numbers.get(one, 1) > 0 or numbers.get(other, bound - 1) < bound:
        return False
    for world, number in numbers.items():
        for name in web.names:
            if may(web, world, name) and numbers.get(behind(web, world, name), number + 2) > number + 1:
                return False
    return True


class Reach(Case):
    def test_history(self):
        claim = ("reach", ["b"], ["a", "c"])
        for names in (["a", "c", "b"], ("a", "c", "b"), ["a", "a", "a", "c", "b"]):
            self.same(verdict(EXAMPLE, claim, ("history", names)), "yes")
        for names in (
            [], ["a"], ["a", "c"], ["c", "a", "b"], ["a", "c", "b", "b"], ["a", "x", "c", "b"], ["d"], [""],
            ["a", "b", "c"],
        ):
            self.same(verdict(EXAMPLE, claim, ("history", names)), "bad")
        self.same(verdict(EXAMPLE, ("reach", ["d"], ["d"]), ("history", [])), "yes")

    def test_history_of_more_than_200(self):
        claim = ("reach", ["b"], ["b"])
        self.same(verdict(EXAMPLE, claim, ("history", ["a"] * 200)), "yes")
        self.same(verdict(EXAMPLE, claim, ("history", ["a"] * 202)), "bad")

    def test_nest(self):
        claim = ("reach", ["b"], ["d"])
        for names in (["d"], ["b", "a"], ("a", "b", "c"), ["c", "b", "a"]):
            self.same(verdict(EXAMPLE, claim, ("nest", names)), "no")
        for names in ([], ["a"], ["d", "d"], ["b", "a", "x"], ["c"], ["a", "b", "c", "d"], ["b", "a", "b"]):
            self.same(verdict(EXAMPLE, claim, ("nest", names)), "bad")
        self.same(verdict(EXAMPLE, ("reach", ["b"], ["a"]), ("nest", ["d"])), "bad")

    def test_papers_of_other_shape(self):
        self.shapes(("reach", ["b"], ["d"]), ("nest", ["d"]))
        self.shapes(("reach", ["b"], ["a", "c"]), ("history", ["a", "c", "b"]))

    def shapes(self, claim, right):
        """No paper of another shape or word is right."""
        self.assertNotEqual(verdict(EXAMPLE, claim, right), "bad")
        for paper in (
            (), right[:1], right + ((),), right + ("more", 1), ("History",) + right[1:], ("",) + right[1:],
            ("paper", 1, None, [[]]), ("answer",), ("nests",) + right[1:], (right[0] + " ",) + right[1:],
        ):
            self.same(verdict(EXAMPLE, claim, paper), "bad")

    def test_words_of_other_claims(self):
        rows = tuple(distance_table(EXAMPLE, ["b"]))
        for paper in (("table", rows), ("thin", [("b", ["a", "b"])]), ("drop", "b", []), ("nests", ["d"], ["d"])):
            self.same(verdict(EXAMPLE, ("reach", ["b"], ["d"]), paper), "bad")
            self.same(verdict(EXAMPLE, ("reach", ["b"], ["a"]), paper), "bad")


class Within(Reach):
    def test_history(self):
        for k in range(200):
            claim = ("within", ["b"], ["a", "c"], k)
            self.same(verdict(EXAMPLE, claim, ("history", ["a", "c", "b"])), "yes" if k >= 3 else "bad")
        claim = ("within", ["b"], ["a", "c"], 5)
        self.same(verdict(EXAMPLE, claim, ("history", ["a", "a", "a", "c", "b"])), "yes")
        self.same(verdict(EXAMPLE, claim, ("history", ["a"] * 5 + ["c", "b"])), "bad")
        for names in (["a", "c"], ["a", "x", "b"], ["c", "a", "b"]):
            self.same(verdict(EXAMPLE, claim, ("history", names)), "bad")
        self.same(verdict(EXAMPLE, ("within", ["d"], ["d"], 0), ("history", [])), "yes")

    def test_history_of_more_than_200(self):
        self.same(verdict(EXAMPLE, ("within", ["b"], ["b"], 199), ("history", ["a"] * 198)), "yes")
        for number in (200, 202):
            self.same(verdict(EXAMPLE, ("within", ["b"], ["b"], 199), ("history", ["a"] * number)), "bad")

    def test_nest(self):
        for k in (0, 3, 199):
            self.same(verdict(EXAMPLE, ("within", ["b"], ["d"], k), ("nest", ["b", "a"])), "no")
            self.same(verdict(EXAMPLE, ("within", ["b"], ["d"], k), ("nest", ["a"])), "bad")
            self.same(verdict(EXAMPLE, ("within", ["b"], ["a"], k), ("nest", ["d"])), "bad")

    def test_table(self):
        rows = distance_table(EXAMPLE, ["b"])
        for k in range(5):
            claim = ("within", ["b"], ["a", "c"], k)
            self.same(verdict(EXAMPLE, claim, ("table", rows)), "no" if k < 3 else "bad")
            self.same(verdict(EXAMPLE, claim, ("table", rows[::-1])), "no" if k < 3 else "bad")
        claim = ("within", ["b"], ["a", "c"], 2)
        first, second = rows[0], rows[1]
        lower = [(names, number - 1) for names, number in rows]
        self.same(verdict(EXAMPLE, claim, ("table", lower)), "bad")
        self.same(verdict(EXAMPLE, ("within", ["b"], ["a", "c"], 1), ("table", lower)), "no")
        for wrong in (
            [], rows[1:], rows[:-1], rows + [first], rows + [(("c", "b", "a"), 0)], rows + [(("x",), 0)],
            rows + [(("d", "d"), 0)], [(first[0], True)] + rows[1:], [first, (second[0], False)] + rows[2:],
            [(names, number + 1) for names, number in rows], [(names, 0) for names, _ in rows],
        ):
            self.same(verdict(EXAMPLE, claim, ("table", wrong)), "bad")
        # A world of another class may be listed, too.
        self.same(verdict(EXAMPLE, claim, ("table", rows + [(("d",), -7)])), "no")
        self.same(verdict(EXAMPLE, ("within", ["d"], ["b"], 199), ("table", [(["d"], 0), ([], 0)])), "bad")
        unlike = [(["d"], 0), ([], 0)] + [(names, 200) for names, _ in rows]
        self.same(verdict(EXAMPLE, ("within", ["d"], ["b"], 199), ("table", unlike)), "no")

    def test_table_of_more_than_400(self):
        web = plain_web(9, 1)
        worlds = subsets(web.names)
        rows = [(world, 1 if world else 0) for world in worlds[:400]]
        claim = ("within", [], ["m"], 0)
        self.same(verdict(web, claim, ("table", rows)), "no")
        self.same(verdict(web, claim, ("table", rows + [(worlds[400], 1)])), "bad")

    def test_papers_of_other_shape(self):
        self.shapes(("within", ["b"], ["d"], 3), ("nest", ["d"]))
        self.shapes(("within", ["b"], ["a", "c"], 3), ("history", ["a", "c", "b"]))
        self.shapes(("within", ["b"], ["a", "c"], 2), ("table", distance_table(EXAMPLE, ["b"])))

    def test_words_of_other_claims(self):
        for paper in (("thin", [("b", ["a", "b"])]), ("drop", "b", []), ("nests", ["d"], ["d"])):
            self.same(verdict(EXAMPLE, ("within", ["b"], ["d"], 3), paper), "bad")
            self.same(verdict(EXAMPLE, ("within", ["b"], ["a"], 3), paper), "bad")


class Fits(Reach):
    def test_history(self):
        claim = ("fits", ["b"], ["c"], ["b", "d"])
        for names in (["a", "c", "b"], ("a", "c", "b"), ["a", "c", "b", "b", "b"]):
            self.same(verdict(EXAMPLE, claim, ("history", names)), "yes")
        for names in ([], ["a"], ["a", "c"], ["a", "c", "d"], ["c"], ["a", "c", "b", "x"]):
            self.same(verdict(EXAMPLE, claim, ("history", names)), "bad")
        self.same(verdict(EXAMPLE, ("fits", ["d"], [], []), ("history", [])), "yes")
        self.same(verdict(EXAMPLE, ("fits", ["b"], [], ["a"]), ("history", ["a"] * 200)), "yes")
        self.same(verdict(EXAMPLE, ("fits", ["b"], [], ["a"]), ("history", ["a"] * 202)), "bad")

    def test_history_of_more_than_200(self):
        self.same(verdict(EXAMPLE, ("fits", ["b"], ["a"], []), ("history", ["a"] * 199)), "yes")
        self.same(verdict(EXAMPLE, ("fits", ["b"], ["a"], []), ("history", ["a"] * 201)), "bad")

    def test_nest(self):
        # Somebody told awake is in a nest that the world avoids: nothing is asked of the last part.
        claim = ("fits", ["b"], ["d"], [])
        for met in ([], ["x", "x"], ["a"], ["d", "d"], [""], ["a", "b", "c"]):
            self.same(verdict(EXAMPLE, claim, ("nests", ["d"], met)), "no")
        for avoided in ([], ["a", "b"], ["d", "d"], ["d", "x"], ["d", "c"]):
            self.same(verdict(EXAMPLE, claim, ("nests", avoided, [])), "bad")
        # A nest that the world does not avoid, of folk who are told asleep or in the avoided nest.
        claim = ("fits", ["b"], [], ["a", "b"])
        for avoided in ([], ["d"]):
            self.same(verdict(EXAMPLE, claim, ("nests", avoided, ["b", "a"])), "no")
            for met in ([], ["d"], ["a"], ["a", "b", "c"], ["a", "b", "x"], ["a", "b", "a"], ["x"]):
                self.same(verdict(EXAMPLE, claim, ("nests", avoided, met)), "bad")
        self.same(verdict(EXAMPLE, claim, ("nests", ["a", "b"], ["a", "b"])), "bad")

    def test_papers_of_other_shape(self):
        self.shapes(("fits", ["b"], ["c"], ["d"]), ("history", ["a", "c"]))
        claim = ("fits", ["b"], ["d"], [])
        self.same(verdict(EXAMPLE, claim, ("nests", ["d"], [])), "no")
        for paper in (
            ("nests", ["d"]), ("nests",), (), ("nests", ["d"], [], []), ("nest", ["d"]), ("nest", ["d"], []),
        ):
            self.same(verdict(EXAMPLE, claim, paper), "bad")

    def test_words_of_other_claims(self):
        rows = tuple(distance_table(EXAMPLE, ["b"]))
        for paper in (("table", rows), ("thin", [("b", ["a", "b"])]), ("drop", "b", []), ("nest", ["d"])):
            self.same(verdict(EXAMPLE, ("fits", ["b"], ["d"], []), paper), "bad")
            self.same(verdict(EXAMPLE, ("fits", ["b"], ["a"], []), paper), "bad")


class Thin(Case):
    def test_thin(self):
        claim = ("thin", ["d", "b"])
        right = [("b", ["b", "a"]), ("d", ["d"])]
        for rows in (right, right[::-1], tuple(right), [["d", ("d",)], ["b", ("a", "b", "c")]]):
            self.same(verdict(EXAMPLE, claim, ("thin", rows)), "yes")
        for rows in (
            [], right[:1], right[1:], right + right[:1], right + [("a", ["a", "b"])], right + [("c", [])],
            [("b", ["b"]), right[1]], [("b", ["a", "b", "d"]), right[1]], [("b", []), right[1]],
            [("b", ["d"]), right[1]],
            [("b", ["b", "a", "x"]), right[1]], [("b", ["b", "a", "b"]), right[1]], [("x", ["d"]), right[1]],
            right + [("x", ["d"])], [("b", ["b", "a"]), ("b", ["b", "a"])],
        ):
            self.same(verdict(EXAMPLE, claim, ("thin", rows)), "bad")
        self.same(verdict(EXAMPLE, ("thin", []), ("thin", [])), "yes")
        self.same(verdict(EXAMPLE, ("thin", ["a", "b"]), ("thin", [("a", ["a", "b"]), ("b", ["a", "b"])])), "bad")

    def test_drop(self):
        claim = ("thin", ["c", "b", "a"])
        for name, names in (
            ("a", ["a"]), ("b", ["b"]), ("c", ["c"]), ("c", ["c", "c", "c"]), ("a", ("b", "b", "a")),
        ):
            self.same(verdict(EXAMPLE, claim, ("drop", name, names)), "no")
        for name, names in (
            ("d", ["a"]), ("x", ["a"]), ("", ["a"]), ("a", ["b"]), ("a", []), ("b", ["a"]), ("a", ["a", "x"]),
            ("a", ["d", "a"]), ("A", ["a"]), ("d", []), ("a", ["a"] * 201 + ["b", "b"]), ("a", ["a", "c"]),
        ):
            self.same(verdict(EXAMPLE, claim, ("drop", name, names)), "bad")
        self.same(verdict(EXAMPLE, claim, ("drop", "a", ["a"] * 199)), "no")
        self.same(verdict(EXAMPLE, claim, ("drop", "a", ["a"] * 201)), "bad")
        # Of a thin world nobody is dropped.
        self.same(verdict(EXAMPLE, ("thin", ["b"]), ("drop", "b", ["b"])), "bad")
        self.same(verdict(EXAMPLE, ("thin", ["b"]), ("drop", "a", [])), "bad")

    def test_papers_of_other_shape(self):
        claim = ("thin", ["a", "b"])
        for paper in (
            (), ("drop",), ("drop", "a"), ("drop", "a", ["a"], []), ("thin",), ("thin", [], []), ("Drop", "a", ["a"]),
            ("history", ["a"]), ("nest", ["d"]), ("table", []), ("nests", ["d"], []), ("x", 1, 2),
        ):
            self.same(verdict(EXAMPLE, claim, paper), "bad")
        for paper in (("thin",), ("thin", [], []), ("thin", [], 0), ("thins", [])):
            self.same(verdict(EXAMPLE, ("thin", []), paper), "bad")


class Refused(Case):
    def refused(self, error, claim):
        """Each function that takes a claim of a web refuses it so."""
        for paper in ((), ("history", []), ("what", 1), ("nest", ["x"]), ("thin", [])):
            self.refuses(error, verdict, EXAMPLE, claim, paper)
        self.refuses(error, find_paper, EXAMPLE, claim)

    def test_words_that_are_not_known(self):
        for word in ("", "Reach", "reached", "history", "nest", "claim", "thin ", "turn"):
            for rest in ((), (["x"],), (["a"], ["a"]), (1, None, [["x"]], True), (["x", "x"], ["y"], True)):
                self.refused(BadClaim(word), (word,) + rest)
                self.refused(BadClaim(word), [word] + list(rest))
                self.refuses(BadClaim(word), claim_names, (word,) + rest)

    def test_each_names_argument(self):
        for claim in CLAIMS:
            lists = [at for at, part in enumerate(claim) if isinstance(part, list)]
            for at in lists:
                for names, error in (
                    (["c", "x"], UnknownFolk("x")), (["c", "c", "x"], Repeated("c")), (["x", "x"], UnknownFolk("x")),
                    ([""], UnknownFolk("")), (("C",), UnknownFolk("C")),
                ):
                    self.refused(error, claim[:at] + (names,) + claim[at + 1:])
                    for later in lists:
                        if later > at:
                            both = claim[:at] + (names,) + claim[at + 1:]
                            self.refused(error, both[:later] + (["y", "d", "d"],) + both[later + 1:])

    def test_numbers(self):
        for k in (-1, 200, True, False, 10 ** 59):
            self.refused(BadNumber(k), ("within", ["b"], ["a"], k))
            self.refused(UnknownFolk("x"), ("within", ["x"], ["a"], k))
            self.refused(Repeated("a"), ("within", ["b"], ["a", "a"], k))
        for k in (0, 199):
            self.assertNotEqual(verdict(EXAMPLE, ("within", ["b"], ["b"], k), ("history", [])), "bad")

    def test_contrary(self):
        self.refused(Contrary("b"), ("fits", ["b"], ["d", "c", "b"], ["c", "b"]))
        self.refused(UnknownFolk("x"), ("fits", ["b"], ["c", "b"], ["c", "b", "x"]))
        self.refused(Repeated("c"), ("fits", ["b"], ["c", "c"], ["c"]))
        self.refused(UnknownFolk("x"), ("fits", ["x"], ["c"], ["c"]))

    def test_of_too_large_a_class(self):
        web = plain_web(9)
        self.refuses(TooLarge("class", 400), find_paper, web, ("within", [], ["m"], 0))
        self.refuses(TooLarge("class", 400), find_paper, web, ("within", [], ["m", "c"], 1))
        # No table is due here.
        self.same(find_paper(web, ("within", [], ["m"], 1)), ("history", ("m",)))
        self.same(find_paper(web, ("within", [], [], 0)), ("history", ()))
        self.same(find_paper(web, ("reach", [], ["m"])), ("history", path(web, [], ["m"]).deeds))
        parted = Web(web.folk + (("last", 1),))
        self.same(find_paper(parted, ("within", [], ["last"], 0)), ("nest", ("last",)))
        self.refuses(UnknownFolk("q"), find_paper, web, ("within", [], ["m", "q"], 0))
        self.refuses(BadNumber(True), find_paper, web, ("within", [], ["m"], True))
        # A class of 400 or fewer.
        self.assertEqual(len(find_paper(plain_web(8), ("within", [], ["m"], 0))[1]), 256)


class FindPaper(Case):
    def test_reach(self):
        self.same(find_paper(EXAMPLE, ("reach", ["b"], ["a", "c"])), ("history", ("a", "c", "b")))
        self.same(find_paper(EXAMPLE, ("reach", ["b"], ["d"])), ("nest", ("d",)))

    def test_within(self):
        self.same(find_paper(EXAMPLE, ("within", ["a"], ["a", "c"], 3)), ("history", ("b", "c", "b")))
        self.same(
            find_paper(EXAMPLE, ("within", ["a"], ["a", "c"], 2)), ("table", tuple(distance_table(EXAMPLE, ["a"])))
        )
        self.same(find_paper(EXAMPLE, ("within", ["a"], ["d"], 199)), ("nest", ("d",)))

    def test_fits(self):
        self.same(find_paper(EXAMPLE, ("fits", ["b"], [], ["b"])), ("history", ("a", "c", "b")))
        self.same(find_paper(EXAMPLE, ("fits", ["b"], ["d"], [])), ("nests", ("d",), ()))
        self.same(find_paper(EXAMPLE, ("fits", ["b"], [], ["a", "b"])), ("nests", ("d",), ("a", "b", "d")))

    def test_thin(self):
        self.same(find_paper(EXAMPLE, ("thin", ["d", "b"])), ("thin", (("b", ("a", "b", "c")), ("d", ("d",)))))
        self.same(find_paper(EXAMPLE, ("thin", [])), ("thin", ()))
        # The first in folk order who can be left out goes, by the path.
        self.same(find_paper(EXAMPLE, ("thin", ["b", "a"])), ("drop", "a", ("c", "c", "a")))
        self.same(
            find_paper(EXAMPLE, ("thin", ["c", "d", "a"])),
            ("drop", "c", path(EXAMPLE, ["c", "d", "a"], ["d", "a"]).deeds),
        )

    def test_all(self):
        seen = set()
        for at, web in enumerate(small_webs()):
            worlds = all_worlds(web)
            for place, one in enumerate(worlds):
                other = worlds[(place * 5 + at) % len(worlds)]
                down = outside_of(web, other)[:2]
                for claim in (
                    ("reach", one, other), ("within", one, other, place % 4), ("fits", one, other[:1], down),
                    ("thin", one),
                ):
                    paper = find_paper(web, claim)
                    found = verdict(web, claim, paper)
                    self.same(found, "yes" if is_true(web, claim) else "no")
                    self.same(paper, paper_by_words(web, claim))
                    self.assertIn(paper[0], ("history", "nest", "nests", "table", "thin", "drop"))
                    seen.add((claim[0], paper[0]))
        self.assertEqual(len(seen), 9)


def is_true(web, claim):
    """True if the claim holds, by a search over deeds."""
    found = distances_from(web, claim[1])
    if claim[0] == "reach":
        return claim[2] in found
    if claim[0] == "within":
        return found.get(claim[2], 999) <= claim[3]
    if claim[0] == "fits":
        return any(set(claim[2]) <= set(world) and not set(claim[3]) & set(world) for world in found)
    return not any(set(claim[1]) - {name} == set(world) for name in claim[1] for world in found)


def paper_by_words(web, claim):
    """The paper that point 78 tells."""
    if claim[0] == "reach":
        return answer(web, claim[1], claim[2])
    if claim[0] == "within":
        if parting_nest(web, claim[1], claim[2]) is not None:
            return ("nest", parting_nest(web, claim[1], claim[2]))
        if is_true(web, claim):
            return ("history", fewest_history(web, claim[1], claim[2]).deeds)
        return ("table", tuple(distance_table(web, claim[1])))
    if claim[0] == "fits":
        return fit_paper(web, *claim[1:])
    for name in claim[1]:
        rest = tuple(one for one in claim[1] if one != name)
        if closure_of(web, rest) == closure_of(web, claim[1]):
            return ("drop", name, path(web, claim[1], rest).deeds)
    return ("thin", tuple(
        (name, greatest_nest(web, [one for one in claim[1] if one != name])) for name in claim[1]
    ))


class AllPapers(Case):
    def test_all_short_histories_and_all_sets(self):
        web = Web([("m", 1), ("c", 1), ("x", 0)], [("x", "m", 1), ("m", "c", 1), ("c", "m", 1)])
        rows = [row for number in range(4) for row in itertools.product("mcx", repeat=number)]
        for one, other in itertools.product(all_worlds(web), all_worlds(web)):
            for names in rows:
                right = world_behind_all(web, one, names) == other
                self.same(verdict(web, ("reach", one, other), ("history", names)), "yes" if right else "bad")
                for k in (1, 2, 3):
                    within = right and len(names) <= k
                    self.same(verdict(web, ("within", one, other, k), ("history", names)), "yes" if within else "bad")
            for names in subsets(web.names):
                right = is_parting(web, one, other, names)
                self.same(verdict(web, ("reach", one, other), ("nest", names[::-1])), "no" if right else "bad")
                self.same(verdict(web, ("within", one, other, 2), ("nest", names[::-1])), "no" if right else "bad")

    def test_all_small_tables(self):
        web = Web([("m", 0), ("c", 1)], [("m", "c", 1)])
        worlds = all_worlds(web)
        count = 0
        for one, other in itertools.product(worlds, worlds):
            for numbers in itertools.product((None, 0, 1, 2), repeat=4):
                rows = [(world, number) for world, number in zip(worlds, numbers) if number is not None]
                for k in (0, 1):
                    right = is_table(web, one, other, rows, k + 1)
                    count += right
                    self.same(verdict(web, ("within", one, other, k), ("table", rows)), "no" if right else "bad")
        self.assertGreater(count, 20)


class Names(Case):
    def test_ordinary(self):
        self.same(claim_names(("reach", ["d", "b"], ["a", "b"])), ("a", "b", "d"))
        self.same(claim_names(("within", ["d", "b"], ("c",), 3)), ("b", "c", "d"))
        self.same(claim_names(["fits", ["z"], ["a"], ("m", "b")]), ("a", "b", "m", "z"))
        self.same(claim_names(("thin", ["b", "a"])), ("a", "b"))
        self.same(claim_names(("thin", [])), ())
        self.same(claim_names(("fits", [], [], [])), ())

    def test_alphabetical_order(self):
        self.same(claim_names(("thin", ["b", "a10", "a2", "a", "aa", "z9"])), ("a", "a10", "a2", "aa", "b", "z9"))

    def test_nothing_else_is_refused(self):
        self.same(claim_names(("reach", ["x", "x"], ["", "A b"])), ("", "A b", "x"))
        for k in (-1, 200, True, 10 ** 59):
            self.same(claim_names(("within", ["b"], ["a"], k)), ("a", "b"))
        self.same(claim_names(("fits", ["q", "q"], ["a"], ["a"])), ("a", "q"))

    def test_refused(self):
        for claim in (("x",), ("",), ["Thin", ["a"]], ("turn", "a")):
            self.refuses(BadClaim(claim[0]), claim_names, claim)


class Copies(Case):
    def test_nothing_that_is_passed_is_changed(self):
        for claim in CLAIMS:
            paper = [list(part) if isinstance(part, tuple) else part for part in find_paper(EXAMPLE, claim)]
            kept = copy.deepcopy((claim, paper))
            verdict(EXAMPLE, claim, paper)
            find_paper(EXAMPLE, claim)
            claim_names(claim)
            self.assertEqual(kinds((claim, paper)), kinds(kept))
        self.assertTrue(EXAMPLE == example_web())

    def test_lists_and_tuples_and_order(self):
        for claim in CLAIMS:
            paper = find_paper(EXAMPLE, claim)
            found = verdict(EXAMPLE, claim, paper)
            turned = [list(part) if isinstance(part, (list, tuple)) else part for part in claim]
            self.same(verdict(EXAMPLE, turned, [list(p) if isinstance(p, tuple) else p for p in paper]), found)
            reverse = tuple(tuple(part[::-1]) if isinstance(part, list) else part for part in claim)
            self.same(verdict(EXAMPLE, reverse, paper), found)
            self.same(find_paper(EXAMPLE, reverse), paper)
            self.same(claim_names(reverse), claim_names(claim))

    def test_equal_answers_when_asked_again(self):
        before = [find_paper(EXAMPLE, claim) for claim in CLAIMS]
        again = [find_paper(EXAMPLE, claim) for claim in CLAIMS[::-1]]
        self.same(again[::-1], before)

    def test_kinds_made_from_pythons_own_do_not_stay(self):
        claim = Row([Text("thin"), Row([Text("b"), Text("a")])])
        self.same(claim_names(claim), ("a", "b"))
        self.same(find_paper(EXAMPLE, claim), ("drop", "a", ("c", "c", "a")))
        self.same(verdict(EXAMPLE, claim, Row([Text("drop"), Text("a"), Row([Text("a")])])), "no")

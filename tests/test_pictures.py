"""Points 36 to 40: pictures, fit papers, who is surely awake or asleep, and point 7 for is_fit_paper."""

import itertools

from drowsefolk.errors import Contrary, NoFit, Repeated, TooLarge, UnknownFolk
from drowsefolk.pictures import (
    count_fits, fit_paper, fits, greatest_fit, is_fit_paper, least_fits, list_fits, sure,
)
from drowsefolk.reach import path
from drowsefolk.webs import Web
from tests.helpers import Case, Text, example_web, plain_web, small_webs, subsets
from tests.slow import (
    closure_of, distances_from, in_folk_order, in_world_order, is_nest_by_needs, nests_of, outside_of,
)

CALLS = (fits, greatest_fit, fit_paper, sure, list_fits, count_fits, least_fits)


def pictures_of(web):
    """All pictures of the web in which nobody is told both."""
    found = []
    for marks in itertools.product((0, 1, 2), repeat=len(web.names)):
        rows = [tuple(name for name, mark in zip(web.names, marks) if mark == kind) for kind in (1, 2)]
        found.append(tuple(rows))
    return found


def fitting(web, awake, up, down):
    """All worlds that come of this one and fit the picture, in world order."""
    return in_world_order(web, [
        world for world in distances_from(web, awake) if set(up) <= set(world) and not set(down) & set(world)
    ])


def some_webs():
    """The small webs, but few of the greatest ones."""
    webs = small_webs()
    return [web for web in webs if len(web.names) < 4] + [web for web in webs if len(web.names) == 4][:5]


def all_cases():
    """All pictures for all worlds of some small webs, with the fitting worlds."""
    for web in some_webs():
        for awake in subsets(web.names):
            for up, down in pictures_of(web):
                yield web, awake, up, down, fitting(web, awake, up, down)


class Fits(Case):
    def test_ordinary(self):
        web = example_web()
        self.assertIs(fits(web, ["a"], ["c"], []), True)
        self.assertIs(fits(web, ["a"], ["c"], ["a"]), True)
        self.assertIs(fits(web, ["a"], [], ["a", "b"]), False)
        self.assertIs(fits(web, ["a"], ["d"], []), False)
        self.assertIs(fits(web, ["a"], [], ["d"]), True)
        self.assertIs(fits(web, ["a"], [], []), True)
        self.assertIs(fits(web, [], [], list("abcd")), True)

    def test_against_a_search_by_deeds(self):
        for web, awake, up, down, worlds in all_cases():
            self.assertIs(fits(web, awake[::-1], up[::-1], down[::-1]), len(worlds) > 0)


class GreatestFit(Case):
    def test_ordinary(self):
        web = example_web()
        self.same(greatest_fit(web, ["a"], ["c"], ["b"]), ("a", "c"))
        self.same(greatest_fit(web, ["a"], [], []), ("a", "b", "c"))
        self.same(greatest_fit(web, [], [], ["a"]), ())

    def test_no_fit(self):
        web = example_web()
        self.refuses(NoFit(("d",), ()), greatest_fit, web, ["a"], ["d"], [])
        self.refuses(NoFit(("d",), ("a", "b", "d")), greatest_fit, web, ["a"], [], ["a", "b"])
        self.refuses(NoFit(("d",), ("a", "b", "c", "d")), greatest_fit, web, ["a"], [], ["a", "b", "c"])
        # Both reasons at once: somebody told awake is outside of the closure.
        self.refuses(NoFit(("d",), ()), greatest_fit, web, ["a"], ["d"], ["a", "b"])

    def test_against_a_search_by_deeds(self):
        for web, awake, up, down, worlds in all_cases():
            if not worlds:
                avoided = outside_of(web, closure_of(web, awake))
                met = ()
                if not set(avoided) & set(up):
                    rest = tuple(name for name in closure_of(web, awake) if name not in down)
                    met = outside_of(web, closure_of(web, rest))
                for call in (greatest_fit, sure, least_fits):
                    self.refuses(NoFit(avoided, met), call, web, awake, up, down)
                self.same(fit_paper(web, awake, up, down), ("nests", avoided, met))
                continue
            greatest = greatest_fit(web, awake[::-1], up[::-1], down[::-1])
            self.same(greatest, worlds[-1])
            self.assertTrue(all(set(world) <= set(greatest) for world in worlds))
            self.same(fit_paper(web, awake, up, down), ("history", path(web, awake, greatest).deeds))
            self.assertTrue(is_fit_paper(web, awake, up, down, fit_paper(web, awake, up, down)))


class FitPaper(Case):
    def test_a_history(self):
        web = example_web()
        self.same(fit_paper(web, ["a"], ["c"], ["b"]), ("history", ("b", "c", "b")))
        # So too if the world fits the picture itself.
        self.same(fit_paper(web, ["b"], [], ["c"]), ("history", ("a", "c", "c")))
        self.same(fit_paper(web, [], [], []), ("history", ()))

    def test_nests(self):
        web = example_web()
        self.same(fit_paper(web, ["a"], ["d"], []), ("nests", ("d",), ()))
        self.same(fit_paper(web, ["a"], [], ["b", "a"]), ("nests", ("d",), ("a", "b", "d")))

    def test_right_whatever_the_picture(self):
        for web, awake, up, down, worlds in all_cases():
            paper = fit_paper(web, awake[::-1], list(up), list(down))
            self.assertIs(is_fit_paper(web, awake, up[::-1], down[::-1], paper), True)
            parts = [paper[0]] + [list(part)[::-1] if paper[0] == "nests" else list(part) for part in paper[1:]]
            self.assertIs(is_fit_paper(web, awake, up, down, parts), True)


class IsFitPaper(Case):
    def test_histories(self):
        web = example_web()
        for names in (["b", "c", "b"], ("b", "c"), ["b", "c", "a"], ["b", "c", "b", "b", "b"]):
            self.assertIs(is_fit_paper(web, ["a"], ["c"], [], ("history", names)), True)
        for names in ([], ["b"], ["c"], ["b", "c", "c"], ["b", "c", "x"], ["x"], ["b", "c", "a", "b"]):
            self.assertIs(is_fit_paper(web, ["a"], ["c"], [], ("history", names)), False)
        self.assertIs(is_fit_paper(web, ["a"], ["c"], ["b"], ("history", ["b", "c"])), False)
        self.assertIs(is_fit_paper(web, ["a"], [], [], ("history", [])), True)
        self.assertIs(is_fit_paper(plain_web(1), [], ["m"], [], ("history", ["m"] * 199)), True)
        self.assertIs(is_fit_paper(plain_web(1), [], [], ["m"], ("history", ["m"] * 200)), True)
        self.assertIs(is_fit_paper(plain_web(1), [], ["m"], [], ("history", ["m"] * 201)), False)

    def test_nests_that_hold_somebody_told_awake(self):
        web = example_web()
        for avoided in (["d"], ("d",)):
            for met in ([], (), ["x"], ["d", "d"], ["a"], ["a", "b"], ["", "%"], ["d"], ["c", "x", "x"] * 100):
                self.assertIs(is_fit_paper(web, ["a"], ["d", "c"], [], ("nests", avoided, met)), True)
        # The first nest must be one, and be avoided, in this case too.
        for avoided in ([], ["d", "d"], ["d", "x"], ["d", "c"], ["a", "b"], ["d", "a", "b"], ["x"]):
            for met in ([], ["a", "b"]):
                self.assertIs(is_fit_paper(web, ["a"], ["d", "c"], [], ("nests", avoided, met)), False)

    def test_nests_of_whom_all_sleep(self):
        web = example_web()
        for met in (["a", "b"], ["b", "a"], ["d", "a", "b"], ("a", "b", "d")):
            self.assertIs(is_fit_paper(web, ["a"], [], ["a", "b"], ("nests", ["d"], met)), True)
        for met in (
            [], ["d"], ["a", "a", "b"], ["a", "b", "x"], ["a"], ["c", "a", "b"], ["a", "b", "c", "d"], ["x"],
        ):
            self.assertIs(is_fit_paper(web, ["a"], [], ["a", "b"], ("nests", ["d"], met)), False)
        self.assertIs(is_fit_paper(web, ["a"], [], ["a", "b"], ("nests", [], ["a", "b"])), True)
        self.assertIs(is_fit_paper(web, ["a"], [], ["a", "b"], ("nests", [], ["a", "b", "d"])), False)
        self.assertIs(is_fit_paper(web, ["a"], [], ["a", "b"], ("nests", ["a", "b"], ["a", "b"])), False)
        self.assertIs(is_fit_paper(web, ["a"], [], ["a", "b"], ("nests", ["d", "d"], ["a", "b"])), False)
        self.assertIs(is_fit_paper(web, ["a"], [], ["a"], ("nests", ["d"], ["a", "b"])), False)

    def test_words_and_numbers_of_parts(self):
        web = example_web()
        for paper in (
            (), [], ("history",), ("nests",), ("history", [], []), ("nests", ["d"]), ("nests", ["d"], [], []),
            ("nest", ["d"], []), ("nest", ["d"]), ("", []), ("other", 1, 2, 3), ("History", []), (None, []),
            ("nests", 1, 2, 3), ("history", 1, 2),
        ):
            self.assertIs(is_fit_paper(web, ["a"], [], [], paper), False)
            self.assertIs(is_fit_paper(web, ["a"], ["d"], [], paper), False)

    def test_all_pairs_of_nests(self):
        for web in some_webs()[:14]:
            for awake in subsets(web.names):
                for up, down in pictures_of(web):
                    for avoided, met in itertools.product(subsets(web.names), repeat=2):
                        right = is_nest_by_needs(web, avoided) and not set(avoided) & set(awake)
                        if not set(avoided) & set(up):
                            right = right and met in nests_of(web) and bool(set(met) & set(awake))
                            right = right and set(met) <= set(avoided) | set(down)
                        paper = ("nests", avoided[::-1], met[::-1])
                        self.assertIs(is_fit_paper(web, awake, up, down, paper), right)
                        if right:
                            self.assertIs(fits(web, awake, up, down), False)


class Sure(Case):
    def test_ordinary(self):
        web = example_web()
        self.same(sure(web, ["a"], ["c"], []), (("c",), ("d",), ("a", "b")))
        self.same(sure(web, ["a"], [], []), ((), ("d",), ("a", "b", "c")))
        self.same(sure(web, ["a"], [], ["b"]), (("a",), ("b", "d"), ("c",)))
        self.same(sure(web, ["c", "d"], [], []), (("c", "d"), ("a", "b"), ()))
        self.same(sure(web, [], [], []), ((), ("a", "b", "c", "d"), ()))
        self.same(sure(web, ["a"], ["b", "a", "c"], []), (("a", "b", "c"), ("d",), ()))

    def test_against_a_search_by_deeds(self):
        for web, awake, up, down, worlds in all_cases():
            if worlds:
                always = in_folk_order(web, set(web.names).intersection(*worlds))
                ever = in_folk_order(web, set().union(*worlds))
                never = outside_of(web, ever)
                free = tuple(name for name in ever if name not in always)
                self.same(sure(web, awake[::-1], up[::-1], down[::-1]), (always, never, free))


class Listing(Case):
    def test_ordinary(self):
        web = example_web()
        self.same(list_fits(web, ["a"], ["c"], []), [("a", "c"), ("b", "c"), ("a", "b", "c")])
        self.same(count_fits(web, ["a"], ["c"], []), 3)
        self.same(least_fits(web, ["a"], ["c"], []), [("a", "c"), ("b", "c")])
        self.same(list_fits(web, ["a"], ["d"], []), [])
        self.same(count_fits(web, ["a"], ["d"], []), 0)
        self.refuses(NoFit(("d",), ()), least_fits, web, ["a"], ["d"], [])
        self.same(least_fits(web, [], [], []), [()])

    def test_against_a_search_by_deeds(self):
        for web, awake, up, down, worlds in all_cases():
            self.same(list_fits(web, awake[::-1], up[::-1], down[::-1]), worlds)
            self.same(count_fits(web, awake, up, down), len(worlds))
            if worlds:
                least = [world for world in worlds if len(world) == len(worlds[0])]
                self.same(least_fits(web, awake, up, down), least)

    def test_eight_and_nine_open(self):
        web = plain_web(9)
        for call in (list_fits, count_fits, least_fits):
            self.refuses(TooLarge("open", 8), call, web, [], [], [])
            self.refuses(TooLarge("open", 8), call, plain_web(10), [], ["m"], [])
        self.same(count_fits(web, [], ["m"], []), 256)
        self.same(len(list_fits(web, [], [], ["m"])), 256)
        self.same(least_fits(web, [], ["y", "m"], []), [("m", "y")])
        self.same(least_fits(plain_web(10), [], ["w", "m"], []), [("m", "w")])
        # All but the open ones may be sure by the weights alone.
        sleepy = Web([(name, 0) for name in web.names[:8]] + [("r", 1), ("q", 3)])
        self.same(count_fits(sleepy, [], [], []), 256)
        self.same(count_fits(sleepy, ["q"], [], []), 256)

    def test_a_picture_that_does_not_fit_is_never_too_large(self):
        web = Web([(name, 0) for name in plain_web(9).names] + [("q", 1)])
        self.same(list_fits(web, [], ["q"], []), [])
        self.same(count_fits(web, [], ["q"], []), 0)
        self.refuses(NoFit(("q",), ()), least_fits, web, [], ["q"], [])
        self.same(list_fits(web, ["q"], [], ["q"]), [])
        self.refuses(NoFit((), ("q",)), least_fits, web, ["q"], [], ["q"])

    def test_a_list_that_is_returned_is_new(self):
        web = example_web()
        for call, up in ((list_fits, ["c"]), (list_fits, ["d"]), (least_fits, ["c"])):
            before = call(web, ["a"], up, [])
            call(web, ["a"], up, []).append(())
            self.same(call(web, ["a"], up, []), before)


class Refusals(Case):
    def test_by_themselves(self):
        web = example_web()
        for call in CALLS:
            self.refuses(UnknownFolk("x"), call, web, ["x"], ["y"], ["z"])
            self.refuses(Repeated("a"), call, web, ["a", "a"], ["y"], ["z"])
            self.refuses(UnknownFolk("y"), call, web, ["a"], ["b", "y"], ["z"])
            self.refuses(Repeated("b"), call, web, ["a"], ["b", "b"], ["z"])
            self.refuses(UnknownFolk("z"), call, web, ["a"], ["b"], ["b", "z"])
            self.refuses(Repeated("b"), call, web, ["a"], ["b"], ["b", "b"])

    def test_contrary(self):
        web = Web([("z", 1), ("a", 1), ("m", 1)])
        for call in CALLS:
            self.refuses(Contrary("z"), call, web, ["a"], ["m", "a", "z"], ["a", "z"])
            self.refuses(Contrary("a"), call, web, [], ["m", "a"], ["z", "m", "a"])
            self.refuses(Contrary("m"), call, web, [], ["m"], ["m"])
            self.refuses(Contrary("z"), call, web, [], ["z"], ["z"])

    def test_contrary_goes_ahead_of_too_large(self):
        web = plain_web(10)
        for call in CALLS:
            self.refuses(Contrary("c"), call, web, [], ["c"], ["c"])

    def test_the_judge_is_refused_ahead_of_the_paper(self):
        web = example_web()
        for paper in ((), ("history", ["q"]), ("what", 1), ("nests", ["d"], [])):
            self.refuses(UnknownFolk("x"), is_fit_paper, web, ["x"], ["y"], ["z"], paper)
            self.refuses(UnknownFolk("y"), is_fit_paper, web, ["a"], ["y"], ["z"], paper)
            self.refuses(UnknownFolk("z"), is_fit_paper, web, ["a"], ["b"], ["b", "z"], paper)
            self.refuses(Repeated("b"), is_fit_paper, web, ["a"], ["b"], ["b", "b"], paper)
            self.refuses(Contrary("b"), is_fit_paper, web, ["a"], ["d", "b"], ["b", "d"], paper)


class Copies(Case):
    def test_what_is_passed_stays(self):
        web = example_web()
        awake, up, down, paper = ["a"], ["c"], ["b"], ["nests", ["d"], ["a"]]
        before = [call(web, awake, up, down) for call in CALLS]
        self.assertIs(is_fit_paper(web, awake, up, down, paper), False)
        after = [call(web, awake, up, down) for call in CALLS]
        self.same(after, before)
        self.assertEqual((awake, up, down, paper), (["a"], ["c"], ["b"], ["nests", ["d"], ["a"]]))

    def test_names_told_are_of_pythons_own_kind(self):
        web = plain_web(2)
        self.same(sure(web, [], [Text("c")], [Text("m")]), (("c",), ("m",), ()))
        self.refuses(Contrary("c"), fits, web, [], [Text("c")], ["c"])
        self.refuses(NoFit(("m", "c"), ()), greatest_fit, plain_web(2, 1), [], [Text("c")], [])

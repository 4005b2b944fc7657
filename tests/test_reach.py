"""Points 25 to 30: what comes of a world, guarded histories, who is needed, and point 7 for the judges."""

import itertools

from drowsefolk.closing import closure, waking_order
from drowsefolk.errors import NotOneClass, Outside, Repeated, UnknownFolk
from drowsefolk.histories import is_history
from drowsefolk.reach import (
    answer, guard_answer, guarded_class, guarded_path, is_answer, is_guard_answer, is_guard_nest, is_parting_nest,
    must_turn, needed, parting_nest, path, same_class,
)
from drowsefolk.webs import Web
from tests.helpers import Case, Text, example_web, plain_web, small_webs, subsets
from tests.slow import (
    closure_of, distances_from, in_folk_order, is_nest_by_needs, nests_of, outside_of, pairs_of_worlds, rows_of_deeds,
)


def chain_web():
    """z wakes alone, z wakes a, a wakes m, and m keeps q."""
    return Web([("z", 0), ("a", 1), ("m", 1), ("q", 1)], [("z", "a", 1), ("a", "m", 1), ("m", "q", 1)])


def two_ways_web():
    """c is woken by a or by b; a and b wake alone; d is woken by c."""
    return Web([("a", 0), ("b", 0), ("c", 1), ("d", 1)], [("a", "c", 1), ("b", "c", 1), ("c", "d", 1)])


def avoided_by_one(names, one, other):
    """True if exactly one of the worlds has none of the names."""
    return (not set(names) & set(one)) != (not set(names) & set(other))


class SameClass(Case):
    def test_ordinary(self):
        web = example_web()
        self.assertIs(same_class(web, ["a"], ["c", "b"]), True)
        self.assertIs(same_class(web, ["a"], ["a"]), True)
        self.assertIs(same_class(web, [], []), True)
        self.assertIs(same_class(web, ["a"], ["c"]), False)
        self.assertIs(same_class(web, [], ["c"]), False)
        self.assertIs(same_class(web, ["a", "d"], ["a"]), False)

    def test_against_a_search_by_deeds(self):
        for web in small_webs():
            for awake, target in pairs_of_worlds(web):
                expected = target in distances_from(web, awake)
                self.assertIs(same_class(web, awake[::-1], target[::-1]), expected)
                nests = nests_of(web)
                self.assertIs(not any(avoided_by_one(nest, awake, target) for nest in nests), expected)
                within = set(awake) <= set(closure_of(web, target)) and set(target) <= set(closure_of(web, awake))
                self.assertIs(within, expected)


class Path(Case):
    def test_ordinary(self):
        web = example_web()
        history = path(web, ["b"], ["c", "a"])
        self.same(history.deeds, ("a", "c", "b"))
        self.same(history.first_world, ("b",))
        self.same(history.last_world, ("a", "c"))
        self.assertTrue(history.web == web)

    def test_it_lets_sleep_from_the_last_to_the_first(self):
        history = path(chain_web(), ["q"], [])
        self.same(history.deeds, ("z", "a", "m", "q", "m", "a", "z"))
        self.same(path(chain_web(), [], ["q"]).deeds, ("z", "a", "m", "q", "m", "a", "z"))

    def test_from_a_world_to_itself(self):
        web = example_web()
        self.same(path(web, ["b"], ["b"]).deeds, ("a", "c", "c", "a"))
        self.same(path(web, ["c", "b", "a"], ["a", "b", "c"]).deeds, ())
        self.same(path(web, [], []).deeds, ())
        self.same(path(plain_web(1), [], []).deeds, ("m", "m"))

    def test_all(self):
        for web in small_webs():
            for awake, target in pairs_of_worlds(web):
                if target in distances_from(web, awake):
                    history = path(web, awake[::-1], list(target))
                    expected = waking_order(web, awake) + waking_order(web, target)[::-1]
                    self.same(history.deeds, expected)
                    self.same((history.first_world, history.last_world), (awake, target))
                else:
                    self.refuses(NotOneClass(parting_nest(web, awake, target)), path, web, awake, target)

    def test_not_one_class(self):
        web = example_web()
        self.refuses(NotOneClass(("d",)), path, web, ["a"], ["a", "d"])
        self.refuses(NotOneClass(("d",)), path, web, ["a", "d"], ["a"])
        self.refuses(NotOneClass(("a", "b", "d")), path, web, ["c"], ["a"])
        self.refuses(NotOneClass(("a", "b", "d")), path, web, ["c"], ["c", "d"])


class PartingNest(Case):
    def test_the_greatest_nest_of_the_first_goes_before(self):
        web = example_web()
        # Each of the two avoids a nest that the other does not avoid.
        self.same(parting_nest(web, ["c"], ["d"]), ("a", "b", "d"))
        self.same(parting_nest(web, ["d"], ["c"]), ("a", "b", "c"))
        # The second is part of the closure of the first, so that only its own nest parts them.
        self.same(parting_nest(web, ["a", "d"], ["c"]), ("a", "b", "d"))
        self.same(parting_nest(web, ["c"], ["d", "a"]), ("a", "b", "d"))
        self.same(parting_nest(web, ["b"], []), ("a", "b", "c", "d"))

    def test_none_in_one_class(self):
        web = example_web()
        self.same(parting_nest(web, ["a"], ["b", "c"]), None)
        self.same(parting_nest(web, [], []), None)

    def test_all(self):
        for web in small_webs():
            for awake, target in pairs_of_worlds(web):
                expected = outside_of(web, closure_of(web, awake))
                if not set(expected) & set(target):
                    expected = outside_of(web, closure_of(web, target))
                if target in distances_from(web, awake):
                    expected = None
                self.same(parting_nest(web, awake, target[::-1]), expected)
                if expected is not None:
                    self.assertTrue(is_nest_by_needs(web, expected) and avoided_by_one(expected, awake, target))
                    self.assertIs(is_parting_nest(web, awake, target, expected[::-1]), True)


class IsPartingNest(Case):
    def test_right(self):
        web = example_web()
        for paper in (["d"], ("d",), ["b", "d", "a"], ["a", "b", "d"]):
            self.assertIs(is_parting_nest(web, ["c"], ["d", "c"], paper), True)

    def test_wrong(self):
        web = example_web()
        for paper in ([], ["a", "b"], list("abcd"), ["d", "d"], ["x"], ["d", "x"], ["d", "c"], [""], ["d"] * 300):
            self.assertIs(is_parting_nest(web, ["c"], ["d", "c"], paper), False)
        # The names must be a nest, not only be avoided by one.
        self.assertIs(is_parting_nest(web, ["b"], ["a"], ["a"]), False)

    def test_all(self):
        for web in small_webs()[:24]:
            for awake, target in pairs_of_worlds(web):
                for names in subsets(web.names):
                    expected = is_nest_by_needs(web, names) and avoided_by_one(names, awake, target)
                    self.assertIs(is_parting_nest(web, awake, target, names[::-1]), expected)


class Answer(Case):
    def test_ordinary(self):
        web = example_web()
        self.same(answer(web, ["b"], ["c", "a"]), ("history", ("a", "c", "b")))
        self.same(answer(web, ["c"], ["d"]), ("nest", ("a", "b", "d")))
        self.same(answer(web, [], []), ("history", ()))

    def test_all(self):
        for web in small_webs():
            for awake, target in pairs_of_worlds(web):
                paper = answer(web, list(awake), target[::-1])
                if target in distances_from(web, awake):
                    self.same(paper, ("history", path(web, awake, target).deeds))
                else:
                    self.same(paper, ("nest", parting_nest(web, awake, target)))
                self.assertIs(is_answer(web, awake, target, paper), True)
                self.assertIs(is_answer(web, awake, target, [paper[0], list(paper[1])]), True)


class IsAnswer(Case):
    def test_histories(self):
        web = example_web()
        for names in (["a", "c", "b"], ("a", "c", "b"), ["a", "c", "c", "c", "b"]):
            self.assertIs(is_answer(web, ["b"], ["c", "a"], ("history", names)), True)
        for names in (["a", "c"], ["c", "a", "b"], ["a", "c", "x"], [], ["a", "c", "b", "d"], ["A"]):
            self.assertIs(is_answer(web, ["b"], ["c", "a"], ("history", names)), False)

    def test_nests(self):
        web = example_web()
        for names in (["d"], ("d",), ["b", "d", "a"]):
            self.assertIs(is_answer(web, ["c"], ["c", "d"], ("nest", names)), True)
        for names in ([], ["a", "b"], ["d", "d"], ["d", "x"], ["d", "c"]):
            self.assertIs(is_answer(web, ["c"], ["c", "d"], ("nest", names)), False)

    def test_200_and_201_names(self):
        web = plain_web(1)
        self.assertIs(is_answer(web, [], [], ("history", ["m"] * 200)), True)
        self.assertIs(is_answer(web, [], ["m"], ("history", ["m"] * 201)), False)
        self.assertIs(is_answer(web, [], [], ("history", ["m"] * 202)), False)

    def test_words(self):
        web = example_web()
        for word in ("", "nests", "History", "histories", "table", "Nest", "history "):
            self.assertIs(is_answer(web, ["b"], ["b"], (word, [])), False)
            self.assertIs(is_answer(web, ["b"], ["a", "d"], (word, ["d"])), False)
        for paper in (("other",), ("other", 1, None), ("other", [1, 2], "x"), ("nests", ["d"], []), (3, 4), (None, [])):
            self.assertIs(is_answer(web, ["b"], ["b"], paper), False)

    def test_numbers_of_parts(self):
        web = example_web()
        for paper in ((), [], ("history",), ("nest",), ("history", [], []), ("history", [], 1), ("nest", ["d"], ["d"])):
            self.assertIs(is_answer(web, ["b"], ["b"], paper), False)
            self.assertIs(is_answer(web, ["b"], ["b", "d"], paper), False)
        self.assertIs(is_answer(web, ["b"], ["b"], ("history", [])), True)
        self.assertIs(is_answer(web, ["b"], ["b", "d"], ("nest", ["d"])), True)

    def test_the_other_arguments_are_refused_before_the_paper(self):
        web = example_web()
        for call in (is_answer, is_parting_nest):
            for paper in ((), ("history", ["q"]), ("what",)):
                self.refuses(UnknownFolk("x"), call, web, ["x"], ["y"], paper)
                self.refuses(Repeated("a"), call, web, ["a", "a"], ["y"], paper)
                self.refuses(UnknownFolk("y"), call, web, ["a"], ["y"], paper)
                self.refuses(Repeated("b"), call, web, ["a"], ["b", "b"], paper)


class GuardedClass(Case):
    def test_ordinary(self):
        web = two_ways_web()
        self.assertIs(guarded_class(web, ["c"], [], []), True)
        self.assertIs(guarded_class(web, ["c"], [], ["a"]), True)
        self.assertIs(guarded_class(web, ["c"], [], ["b", "d"]), True)
        self.assertIs(guarded_class(web, ["c"], [], ["b", "a"]), False)
        self.assertIs(guarded_class(web, ["d"], [], ["c"]), False)
        self.assertIs(guarded_class(web, ["c"], ["c"], ["b", "a"]), True)

    def test_one_class_without_a_guarded_history(self):
        web = two_ways_web()
        self.assertIs(same_class(web, ["d"], []), True)
        self.assertIs(guarded_class(web, ["d"], [], ["c"]), False)

    def test_against_a_search_by_deeds(self):
        for web in small_webs():
            for awake, target in pairs_of_worlds(web):
                for names in subsets(outside_of(web, awake + target)):
                    free = outside_of(web, names)
                    expected = target in distances_from(web, awake, free)
                    self.assertIs(guarded_class(web, awake[::-1], target, names[::-1]), expected)
                    ends = (closure_of(web, awake, free), closure_of(web, target, free))
                    self.assertIs(ends[0] == ends[1], expected)


class GuardedPath(Case):
    def test_ordinary(self):
        web = two_ways_web()
        self.same(guarded_path(web, ["c"], [], ["a"]).deeds, ("b", "d", "d", "c", "b"))
        self.same(guarded_path(web, ["c"], [], ["b", "d"]).deeds, ("a", "c", "a"))
        self.same(guarded_path(web, ["c"], [], []).deeds, path(web, ["c"], []).deeds)
        self.same(guarded_path(web, ["c"], ["c"], list("dba")).deeds, ())

    def test_not_one_class(self):
        web = two_ways_web()
        self.refuses(NotOneClass(("c", "d")), guarded_path, web, [], ["c"], ["b", "a"])
        self.refuses(NotOneClass(("c", "d")), guarded_path, web, ["c"], [], ["b", "a"])
        # d alone can wake nobody here, and c is no nest of the web.
        self.refuses(NotOneClass(("d",)), guarded_path, web, ["a"], ["d"], ["c"])
        self.assertIs(is_parting_nest(web, ["a"], ["d"], ["d"]), False)

    def test_all(self):
        for web in small_webs():
            for awake, target in pairs_of_worlds(web):
                for names in subsets(outside_of(web, awake + target)):
                    free = outside_of(web, names)
                    if target in distances_from(web, awake, free):
                        history = guarded_path(web, awake, target, names[::-1])
                        back = waking_order(web, target, within=free)[::-1]
                        self.same(history.deeds, waking_order(web, awake, within=free) + back)
                        self.same((history.first_world, history.last_world), (awake, target))
                        self.assertFalse({name for world in history.worlds() for name in world} & set(names))
                    else:
                        nest = in_folk_order(web, set(free) - set(closure_of(web, awake, free)))
                        if not set(nest) & set(target):
                            nest = in_folk_order(web, set(free) - set(closure_of(web, target, free)))
                        self.assertTrue(avoided_by_one(nest, awake, target))
                        self.assertIs(is_guard_nest(web, names, nest), True)
                        self.refuses(NotOneClass(nest), guarded_path, web, awake, target, names)


class IsGuardNest(Case):
    def test_right(self):
        web = two_ways_web()
        for paper in ([], (), ["c"], ["d", "c"], ["c", "d"]):
            self.assertIs(is_guard_nest(web, ["b", "a"], paper), True)
        self.assertIs(is_guard_nest(web, ["c"], ["d"]), True)
        self.assertIs(is_guard_nest(web, list("abcd"), []), True)
        self.assertIs(is_guard_nest(web, [], []), True)

    def test_wrong(self):
        web = two_ways_web()
        for paper in (["d"], ["c", "c"], ["x"], ["c", "x"], ["a"], ["c", "a"], ["a", "b", "c", "d"], ["c"] * 300):
            self.assertIs(is_guard_nest(web, ["b", "a"], paper), False)
        self.assertIs(is_guard_nest(web, [], ["c"]), False)

    def test_all(self):
        for web in small_webs():
            for guards in subsets(web.names):
                for names in subsets(web.names):
                    expected = is_nest_by_needs(web, names, guards) and not set(names) & set(guards)
                    self.assertIs(is_guard_nest(web, guards[::-1], names[::-1]), expected)

    def test_refused(self):
        web = two_ways_web()
        self.refuses(UnknownFolk("x"), is_guard_nest, web, ["x"], ["q"])
        self.refuses(Repeated("a"), is_guard_nest, web, ["a", "a"], ["q"])


class GuardAnswer(Case):
    def test_ordinary(self):
        web = two_ways_web()
        self.same(guard_answer(web, ["c"], [], ["a"]), ("history", ("b", "d", "d", "c", "b")))
        self.same(guard_answer(web, [], ["c"], ["b", "a"]), ("nest", ("c", "d")))

    def test_all(self):
        for web in small_webs():
            for awake, target in pairs_of_worlds(web):
                for names in subsets(outside_of(web, awake + target)):
                    paper = guard_answer(web, awake[::-1], list(target), names[::-1])
                    if target in distances_from(web, awake, outside_of(web, names)):
                        self.same(paper, ("history", guarded_path(web, awake, target, names).deeds))
                    else:
                        with self.assertRaises(NotOneClass) as caught:
                            guarded_path(web, awake, target, names)
                        self.same(paper, ("nest", caught.exception.nest))
                    self.assertIs(is_guard_answer(web, awake, target, names, paper), True)


class IsGuardAnswer(Case):
    def test_histories(self):
        web = two_ways_web()
        self.assertIs(is_guard_answer(web, ["c"], [], ["a"], ("history", ["b", "c", "b"])), True)
        self.assertIs(is_guard_answer(web, ["c"], [], ["a"], ["history", ("b", "c", "b")]), True)
        # The same is no guarded history if somebody turns who is guarded, even if only for a while.
        self.assertIs(is_guard_answer(web, ["c"], [], ["a"], ("history", ["a", "c", "a"])), False)
        self.assertIs(is_guard_answer(web, ["c"], [], ["b"], ("history", ["a", "c", "a"])), True)
        self.assertIs(is_guard_answer(web, ["c"], [], ["a"], ("history", ["b", "c", "b", "a", "a"])), False)
        self.assertIs(is_guard_answer(web, ["c"], [], ["a"], ("history", ["b", "c"])), False)
        self.assertIs(is_guard_answer(web, ["c"], [], ["a"], ("history", ["b", "c", "x"])), False)
        self.assertIs(is_guard_answer(web, ["c"], ["c"], ["a"], ("history", ["b"] * 200)), True)
        self.assertIs(is_guard_answer(web, ["c"], ["c"], ["a"], ("history", ["b"] * 202)), False)

    def test_nests(self):
        web = two_ways_web()
        self.assertIs(is_guard_answer(web, ["c"], [], ["a", "b"], ("nest", ["d", "c"])), True)
        self.assertIs(is_guard_answer(web, ["c"], [], ["a", "b"], ("nest", ("c",))), True)
        for names in ([], ["d"], ["c", "c"], ["x"], ["c", "a"], ["c", "x"]):
            self.assertIs(is_guard_answer(web, ["c"], [], ["a", "b"], ("nest", names)), False)
        # A guard nest of which both or neither are awake shows nothing.
        self.assertIs(is_guard_answer(web, ["c"], ["c", "d"], ["a", "b"], ("nest", ["c"])), False)
        self.assertIs(is_guard_answer(web, [], [], ["a", "b"], ("nest", ["c"])), False)

    def test_words_and_numbers_of_parts(self):
        web = two_ways_web()
        for paper in (
            (), [], ("history",), ("nest",), ("history", [], []), ("nest", ["c"], ["c"]), ("other", 1, 2, 3), ("", []),
            ("nests", ["c"]), (None, []), ("table", []),
        ):
            self.assertIs(is_guard_answer(web, [], [], ["a"], paper), False)
            self.assertIs(is_guard_answer(web, ["c"], [], ["b", "a"], paper), False)

    def test_all(self):
        for web in small_webs()[:14]:
            for awake, target in pairs_of_worlds(web):
                for guards in subsets(outside_of(web, awake + target)):
                    for names in subsets(web.names):
                        expected = (
                            is_nest_by_needs(web, names, guards) and not set(names) & set(guards)
                            and avoided_by_one(names, awake, target)
                        )
                        self.assertIs(is_guard_answer(web, awake, target, guards, ("nest", names[::-1])), expected)
                    for row in itertools.product(web.names, repeat=2):
                        expected = not set(row) & set(guards) and is_history(web, awake, target, row)
                        self.assertIs(is_guard_answer(web, awake, target, guards, ("history", row)), expected)


class GuardedRefusals(Case):
    CALLS = (guarded_class, guarded_path, guard_answer)

    def test_by_themselves(self):
        web = two_ways_web()
        for call in self.CALLS:
            self.refuses(UnknownFolk("x"), call, web, ["x"], ["y"], ["w"])
            self.refuses(Repeated("a"), call, web, ["a", "a"], ["y"], ["w"])
            self.refuses(UnknownFolk("y"), call, web, ["a"], ["y"], ["w"])
            self.refuses(Repeated("b"), call, web, ["a"], ["b", "b"], ["w"])
            self.refuses(UnknownFolk("w"), call, web, ["a"], ["b"], ["a", "w"])
            self.refuses(Repeated("a"), call, web, ["a"], ["b"], ["a", "a"])

    def test_outside(self):
        web = Web([("z", 1), ("a", 1), ("m", 1)])
        for call in self.CALLS:
            self.refuses(Outside("z"), call, web, ["z", "a"], ["m"], ["a", "m", "z"])
            self.refuses(Outside("z"), call, web, ["a"], ["z"], ["a", "z"])
            self.refuses(Outside("a"), call, web, ["m"], ["m", "a"], ["m", "a"])
            self.refuses(Outside("m"), call, web, ["m"], ["m"], ["z", "m"])
            self.refuses(Outside("z"), call, web, ["z"], ["z"], ["z"])
            self.refuses(Outside("m"), call, web, [], ["m"], ["z", "m"])
            # The two worlds are of unlike classes, too.
            self.refuses(Outside("m"), call, web, ["z"], ["a", "m"], ["m"])

    def test_the_judge_is_refused_ahead_of_the_paper(self):
        web = Web([("z", 1), ("a", 1), ("m", 1)])
        for paper in ((), ("history", ["q"]), ("what", 1, 2), ("nest", ["a"])):
            self.refuses(UnknownFolk("x"), is_guard_answer, web, ["x"], ["y"], ["w"], paper)
            self.refuses(UnknownFolk("y"), is_guard_answer, web, ["a"], ["y"], ["w"], paper)
            self.refuses(UnknownFolk("w"), is_guard_answer, web, ["a"], ["z"], ["a", "w"], paper)
            self.refuses(Repeated("a"), is_guard_answer, web, ["a"], ["z"], ["a", "a"], paper)
            self.refuses(Outside("z"), is_guard_answer, web, ["a"], ["m", "z"], ["m", "a", "z"], paper)


class Needed(Case):
    def test_ordinary(self):
        self.same(needed(chain_web(), ["q"], []), ("z", "a", "m", "q"))
        self.same(needed(two_ways_web(), ["d"], []), ("c", "d"))
        self.same(needed(two_ways_web(), ["c"], []), ("c",))
        self.same(needed(example_web(), ["a"], ["c", "a"]), ("a", "b", "c"))
        self.same(needed(example_web(), [], []), ())

    def test_must_turn(self):
        self.same(must_turn(chain_web(), ["q"], []), ("z", "a", "m", "q"))
        self.same(must_turn(two_ways_web(), ["d"], []), ("c", "d"))
        # a is awake in both: it never has to turn.
        self.same(must_turn(example_web(), ["a"], ["c", "a"]), ("b", "c"))
        self.same(must_turn(example_web(), ["a"], ["a"]), ())
        self.same(must_turn(example_web(), ["a", "b"], ["a"]), ("b",))

    def test_against_a_search_by_deeds(self):
        for web in small_webs():
            for awake, target in pairs_of_worlds(web):
                if target not in distances_from(web, awake):
                    continue
                always = []
                turns = []
                for name in web.names:
                    free = outside_of(web, [name])
                    if name in awake or name in target or target not in distances_from(web, awake, free):
                        always.append(name)
                    # Who never turns stays as in the first world: a search in which this one may not turn.
                    if (name in awake) != (name in target) or not still_comes(web, awake, target, name):
                        turns.append(name)
                self.same(needed(web, awake[::-1], target), tuple(always))
                self.same(must_turn(web, awake, target[::-1]), tuple(turns))

    def test_rows_of_deeds(self):
        web = example_web()
        for awake, target in pairs_of_worlds(web):
            for length in range(6):
                for row in rows_of_deeds(web, awake, target, length):
                    self.assertLessEqual(set(must_turn(web, awake, target)), set(row))

    def test_refused(self):
        web = example_web()
        for call in (needed, must_turn):
            self.refuses(NotOneClass(("a", "b", "d")), call, web, ["c"], ["d"])
            self.refuses(NotOneClass(("d",)), call, web, ["a", "d"], ["a"])
            self.refuses(UnknownFolk("x"), call, web, ["x"], ["y"])
            self.refuses(Repeated("a"), call, web, ["a", "a"], ["y"])
            self.refuses(UnknownFolk("y"), call, web, ["a"], ["y"])
            self.refuses(Repeated("d"), call, web, ["a"], ["d", "d"])


def still_comes(web, awake, target, name):
    """True if the target comes of the world by deeds of others than the name."""
    return target in distances_from(web, awake, outside_of(web, [name]))


class Refusals(Case):
    def test_by_themselves(self):
        web = example_web()
        for call in (same_class, path, parting_nest, answer):
            self.refuses(UnknownFolk("x"), call, web, ["x"], ["y"])
            self.refuses(Repeated("a"), call, web, ["a", "a"], ["y"])
            self.refuses(UnknownFolk("y"), call, web, ["a"], ["y"])
            self.refuses(Repeated("d"), call, web, ["a"], ["d", "d"])


class Copies(Case):
    def test_what_is_passed_stays(self):
        web = example_web()
        awake, target, names, paper = ["b"], ["c", "a"], ["d"], ["history", ["a", "c", "b"]]
        before = (answer(web, awake, target), path(web, awake, target).deeds, guard_answer(web, awake, target, names))
        self.assertIs(is_answer(web, awake, target, paper), True)
        self.assertIs(is_guard_answer(web, awake, target, names, paper), True)
        same_class(web, [], target)
        after = (answer(web, awake, target), path(web, awake, target).deeds, guard_answer(web, awake, target, names))
        self.same(after, before)
        self.assertEqual(
            (awake, target, names, paper), (["b"], ["c", "a"], ["d"], ["history", ["a", "c", "b"]]),
        )
        self.same(closure(web, awake), ("a", "b", "c"))

    def test_names_told_are_of_pythons_own_kind(self):
        web = plain_web(2, 1)
        self.same(parting_nest(web, [Text("c")], [Text("m")]), ("m",))
        self.same(answer(plain_web(2), [Text("c")], [Text("m")]), ("history", ("m", "c")))
        self.refuses(NotOneClass(("m",)), path, web, [Text("c")], [Text("m")])

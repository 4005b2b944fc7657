"""Points 41 to 44: members of classes, thin worlds, least wakers, joins and meets, and point 7 for is_thin_paper."""

import itertools

from drowsefolk.classes import (
    class_join, class_meet, class_place, class_size, class_table, classes, is_thin, is_thin_paper, least_member,
    least_wakers, member_at, members, rank, thin_members, thin_paper, thinned,
)
from drowsefolk.errors import BadNumber, NotThin, Repeated, TooLarge, UnknownFolk
from drowsefolk.nests import all_nests
from drowsefolk.webs import Web
from tests.helpers import Case, Text, example_web, grouped_web, plain_web, small_webs, subsets
from tests.slow import (
    classes_of, closure_of, distances_from, in_folk_order, in_world_order, is_nest_by_needs, outside_of,
    pairs_of_worlds, worlds_of,
)

OF_A_CLASS = (members, class_size, rank, least_member, thin_members)
OF_A_WEB = (classes, class_table, least_wakers)


def is_thin_by_search(web, world):
    """True if no awake one can be left out without leaving the class."""
    return not any(outside_of_one(web, world, name) in distances_from(web, world) for name in world)


def outside_of_one(web, world, name):
    """The world without the one name."""
    return in_folk_order(web, [other for other in world if other != name])


class Members(Case):
    def test_ordinary(self):
        web = example_web()
        expected = [("a",), ("b",), ("a", "b"), ("a", "c"), ("b", "c"), ("a", "b", "c")]
        self.same(members(web, ["b"]), expected)
        self.same(class_size(web, ["c", "a"]), 6)
        self.same([rank(web, world) for world in expected], [0, 1, 2, 3, 4, 5])
        self.same(rank(web, ["b", "a"]), 2)
        self.same([member_at(web, ["b"], place) for place in range(6)], expected)
        self.same(least_member(web, ["c", "b", "a"]), ("a",))
        self.same(thin_members(web, ["c", "b", "a"]), [("a",), ("b",)])

    def test_a_class_of_one(self):
        web = example_web()
        for world in ([], ["c"], ["d", "c"]):
            told = in_folk_order(web, world)
            self.same(members(web, world), [told])
            self.same((class_size(web, world), rank(web, world)), (1, 0))
            self.same(member_at(web, world, 0), told)
            self.same(least_member(web, world), told)
            self.same(thin_members(web, world), [told])

    def test_against_a_search_by_deeds(self):
        for web in small_webs():
            for awake in subsets(web.names):
                expected = in_world_order(web, list(distances_from(web, awake)))
                self.same(members(web, awake[::-1]), expected)
                self.same(class_size(web, awake[::-1]), len(expected))
                self.same(rank(web, awake[::-1]), expected.index(awake))
                self.same(member_at(web, awake, len(expected) - 1), closure_of(web, awake))
                self.same(member_at(web, awake, len(expected) // 2), expected[len(expected) // 2])
                self.same(least_member(web, awake), expected[0])
                thin = [world for world in expected if is_thin_by_search(web, world)]
                self.same(thin_members(web, awake[::-1]), thin)

    def test_the_thin_members_decide(self):
        for web in small_webs():
            for awake in subsets(web.names):
                thin = thin_members(web, awake)
                whole = set(closure_of(web, awake))
                found = [
                    world for world in worlds_of(web)
                    if set(world) <= whole and any(set(one) <= set(world) for one in thin)
                ]
                self.same(members(web, awake), found)

    def test_no_rank_of_the_class(self):
        web = example_web()
        for place in (-1, 6, True, False, 10 ** 59, -10 ** 59):
            self.refuses(BadNumber(place), member_at, web, ["b"], place)
        for place in (1, True, False):
            self.refuses(BadNumber(place), member_at, web, [], place)

    def test_too_large(self):
        web, awake = grouped_web([5, 5, 2, 2, 2, 2])
        self.same(class_size(web, awake), 400)
        self.same(len(members(web, awake)), 400)
        self.same(member_at(web, awake, 399), web.names)
        self.refuses(BadNumber(400), member_at, web, awake, 400)
        self.same(rank(web, web.names), 399)
        self.same(len(thin_members(web, awake)), 4)
        web, awake = grouped_web([5, 7, 3, 2, 2])
        for call in OF_A_CLASS:
            self.refuses(TooLarge("class", 400), call, web, awake)
            self.refuses(TooLarge("class", 400), call, plain_web(9), ["c"])
        for place in (0, -1, 10 ** 59, True, False):
            self.refuses(TooLarge("class", 400), member_at, web, awake, place)

    def test_the_arguments_go_first(self):
        web = plain_web(9)
        for call in OF_A_CLASS:
            self.refuses(UnknownFolk("q"), call, web, ["q"])
            self.refuses(Repeated("m"), call, web, ["m", "m"])
        self.refuses(UnknownFolk("q"), member_at, web, ["q"], -1)
        self.refuses(Repeated("m"), member_at, web, ["m", "m"], True)

    def test_a_list_that_is_returned_is_new(self):
        web = example_web()
        for call in (members, thin_members):
            before = call(web, ["a"])
            call(web, ["a"]).clear()
            self.same(call(web, ["a"]), before)


class Classes(Case):
    def test_ordinary(self):
        web = example_web()
        expected = [(), ("c",), ("d",), ("c", "d"), ("a", "b", "c"), ("a", "b", "c", "d")]
        self.same(classes(web), expected)
        self.same(class_table(web), list(zip(expected, [1, 1, 1, 1, 6, 6])))
        self.same(class_place(web, ["b"]), 4)
        self.same(class_place(web, []), 0)
        self.same(class_place(web, ["d", "c", "a"]), 5)
        self.same(class_table(plain_web(1)), [(("m",), 2)])

    def test_against_a_search_by_deeds(self):
        for web in small_webs():
            found = classes_of(web)
            whole = {max(group, key=len): group for group in found}
            expected = in_world_order(web, list(whole))
            self.same(classes(web), expected)
            self.same(class_table(web), [(world, len(whole[world])) for world in expected])
            self.same(len(classes(web)), len(all_nests(web)))
            self.same(sum([size for world, size in class_table(web)]), 2 ** len(web.names))
            for awake in subsets(web.names):
                self.same(class_place(web, awake[::-1]), expected.index(closure_of(web, awake)))

    def test_eight_and_nine_folk(self):
        self.same(class_table(plain_web(8)), [(plain_web(8).names, 256)])
        self.same(len(classes(plain_web(8, 1))), 256)
        self.same(class_place(plain_web(8), ["m"]), 0)
        for number in (9, 10):
            for call in OF_A_WEB:
                self.refuses(TooLarge("folk", 8), call, plain_web(number))
            self.refuses(TooLarge("folk", 8), class_place, plain_web(number), ["m"])

    def test_the_arguments_go_first(self):
        self.refuses(UnknownFolk("q"), class_place, plain_web(9), ["q"])
        self.refuses(Repeated("m"), class_place, plain_web(9), ["m", "m"])

    def test_a_list_that_is_returned_is_new(self):
        web = example_web()
        for call in OF_A_WEB:
            before = call(web)
            call(web).clear()
            self.same(call(web), before)


class JoinAndMeet(Case):
    def test_ordinary(self):
        web = example_web()
        self.same(class_join(web, ["c"], ["d"]), ("c", "d"))
        self.same(class_join(web, ["d"], ["a"]), ("a", "b", "c", "d"))
        self.same(class_meet(web, ["d", "b"], ["a"]), ("a", "b", "c"))
        self.same(class_meet(web, ["d", "c"], ["a"]), ("c",))
        self.same(class_meet(web, [], ["a"]), ())
        # a is in no one's closure but its own; the union of closures need not be closed.
        both = Web([("z", 1), ("a", 1), ("m", 2)], [("z", "m", 1), ("a", "m", 1)])
        self.same(class_join(both, ["z"], ["a"]), ("z", "a", "m"))
        self.same(class_meet(both, ["z"], ["a"]), ())

    def test_all(self):
        for web in small_webs():
            closures = classes(web)
            for awake, target in pairs_of_worlds(web):
                one, other = set(closure_of(web, awake)), set(closure_of(web, target))
                join = [world for world in closures if one | other <= set(world)][0]
                meet = [world for world in closures if set(world) <= one & other][-1]
                self.same(class_join(web, awake[::-1], list(target)), join)
                self.same(class_meet(web, list(awake), target[::-1]), meet)
                self.assertTrue(all(set(join) <= set(world) for world in closures if one | other <= set(world)))
                self.assertEqual(set(meet), one & other)

    def test_no_limit(self):
        self.same(class_join(plain_web(10, 1), ["m"], ["w"]), ("m", "w"))
        self.same(class_meet(plain_web(10), ["m"], ["w"]), plain_web(10).names)

    def test_refused(self):
        web = example_web()
        for call in (class_join, class_meet):
            self.refuses(UnknownFolk("x"), call, web, ["x"], ["y"])
            self.refuses(Repeated("a"), call, web, ["a", "a"], ["y"])
            self.refuses(UnknownFolk("y"), call, web, ["a"], ["y"])
            self.refuses(Repeated("b"), call, web, ["a"], ["b", "b"])


class Thin(Case):
    def test_is_thin(self):
        web = example_web()
        for world, expected in (
            ([], True), (["a"], True), (["b"], True), (["a", "b"], False), (["c"], True), (["c", "a"], False),
            (["d"], True), (["d", "a"], True), (["c", "d"], True), (list("abcd"), False),
        ):
            self.assertIs(is_thin(web, world), expected)
        self.assertIs(is_thin(plain_web(10), []), True)
        self.assertIs(is_thin(plain_web(10), ["m"]), False)

    def test_thinned(self):
        web = example_web()
        # a goes first, so that b must stay.
        self.same(thinned(web, ["b", "a"]), ("b",))
        self.same(thinned(web, ["c", "b", "a"]), ("b",))
        self.same(thinned(web, ["d", "c", "b", "a"]), ("b", "d"))
        self.same(thinned(web, ["c"]), ("c",))
        self.same(thinned(web, []), ())
        self.same(thinned(Web([("b", 1), ("a", 1)], [("b", "a", 1), ("a", "b", 1)]), ["a", "b"]), ("a",))

    def test_thin_paper(self):
        web = example_web()
        self.same(thin_paper(web, []), [])
        self.same(thin_paper(web, ["a"]), [("a", ("a", "b", "c", "d"))])
        self.same(thin_paper(web, ["d", "b"]), [("b", ("a", "b", "c")), ("d", ("d",))])
        self.same(thin_paper(web, ["d", "c"]), [("c", ("a", "b", "c")), ("d", ("a", "b", "d"))])

    def test_not_thin(self):
        web = example_web()
        self.refuses(NotThin("a"), thin_paper, web, ["b", "a"])
        self.refuses(NotThin("c"), thin_paper, web, ["c", "b"])
        self.refuses(NotThin("a"), thin_paper, web, ["d", "c", "b", "a"])
        self.refuses(NotThin("x"), thin_paper, plain_web(4), ["a", "x"])

    def test_all(self):
        for web in small_webs():
            for awake in subsets(web.names):
                thin = is_thin_by_search(web, awake)
                self.assertIs(is_thin(web, awake[::-1]), thin)
                found = distances_from(web, awake)
                kept = awake
                for name in awake:
                    if outside_of_one(web, kept, name) in found:
                        kept = outside_of_one(web, kept, name)
                self.same(thinned(web, awake[::-1]), kept)
                self.assertTrue(is_thin_by_search(web, kept))
                if thin:
                    rests = [outside_of_one(web, awake, name) for name in awake]
                    rows = [(name, outside_of(web, closure_of(web, rest))) for name, rest in zip(awake, rests)]
                    self.same(thin_paper(web, awake[::-1]), rows)
                    self.assertIs(is_thin_paper(web, awake[::-1], rows), True)
                    self.assertIs(is_thin_paper(web, awake, [[name, nest[::-1]] for name, nest in rows[::-1]]), True)
                else:
                    first = [name for name in awake if outside_of_one(web, awake, name) in found][0]
                    self.refuses(NotThin(first), thin_paper, web, awake[::-1])

    def test_refused(self):
        web = plain_web(10)
        for call in (is_thin, thinned, thin_paper):
            self.refuses(UnknownFolk("q"), call, web, ["q"])
            self.refuses(Repeated("m"), call, web, ["m", "m"])

    def test_a_list_that_is_returned_is_new(self):
        web = example_web()
        thin_paper(web, ["a"]).clear()
        thin_paper(web, []).append("x")
        self.same((len(thin_paper(web, ["a"])), thin_paper(web, [])), (1, []))


class IsThinPaper(Case):
    def test_right(self):
        web = example_web()
        for paper in (
            [("d", ["d"]), ("b", ["c", "a", "b"])], (("b", ("a", "b")), ("d", ("d",))),
            [["b", ["b", "a"]], ["d", ["d"]]],
        ):
            self.assertIs(is_thin_paper(web, ["d", "b"], paper), True)
        self.assertIs(is_thin_paper(web, [], []), True)
        self.assertIs(is_thin_paper(web, [], ()), True)

    def test_wrong_pairs(self):
        web = example_web()
        good = [("b", ["a", "b"]), ("d", ["d"])]
        for paper in (
            [], good[:1], good[1:], good + good[:1], good + [("b", ["a", "b", "c"])], good + [("c", ["a", "b", "c"])],
            good + [("x", ["d"])], good + [("", [])], [("d", ["d"]), ("a", ["a", "b"])], [("x", ["d"])] + good[:1],
        ):
            self.assertIs(is_thin_paper(web, ["b", "d"], paper), False)
        self.assertIs(is_thin_paper(web, [], [("d", ["d"])]), False)
        self.assertIs(is_thin_paper(web, [], [("x", [])]), False)

    def test_wrong_nests(self):
        web = example_web()
        for nest in (
            [], ["d"], ["b"], ["a", "b", "b"], ["a", "b", "x"], ["a", "b", "d"], ["a"], ["c", "b"], ["x"],
            list("abcd"), ["a", "c", "b", "d"],
        ):
            self.assertIs(is_thin_paper(web, ["b", "d"], [("b", nest), ("d", ["d"])]), False)
            self.assertIs(is_thin_paper(web, ["b", "d"], [("d", ["d"]), ("b", nest)]), False)
        # Each one is in a nest, but not alone.
        self.assertIs(is_thin_paper(web, ["b", "a"], [("a", ["a", "b"]), ("b", ["a", "b"])]), False)

    def test_all_papers_of_two(self):
        for web in small_webs()[:14]:
            for awake in subsets(web.names):
                if len(awake) != 2:
                    continue
                rows = [(name, nest) for name in web.names for nest in subsets(web.names)]
                for paper in itertools.combinations(rows, 2):
                    expected = sorted(name for name, nest in paper) == sorted(awake) and all(
                        is_nest_by_needs(web, nest) and set(nest) & set(awake) == {name} for name, nest in paper
                    )
                    self.assertIs(is_thin_paper(web, awake, paper), expected)
                    self.assertIs(is_thin_paper(web, awake[::-1], [(n, p[::-1]) for n, p in paper[::-1]]), expected)

    def test_the_world_is_refused_before_the_paper(self):
        web = example_web()
        for paper in ([], [("q", ["q"])], [("a", ["a", "b"])]):
            self.refuses(UnknownFolk("x"), is_thin_paper, web, ["x"], paper)
            self.refuses(Repeated("a"), is_thin_paper, web, ["a", "a"], paper)


class LeastWakers(Case):
    def test_ordinary(self):
        web = example_web()
        self.same(least_wakers(web), [("a", "d"), ("b", "d")])
        self.same(least_wakers(web, target=None), [("a", "d"), ("b", "d")])
        self.same(least_wakers(web, target=list("dcba")), [("a", "d"), ("b", "d")])
        self.same(least_wakers(web, target=["c"]), [("a",), ("b",), ("c",)])
        self.same(least_wakers(web, target=("c", "b")), [("a",), ("b",)])
        self.same(least_wakers(web, target=["d"]), [("d",)])

    def test_the_empty_target(self):
        self.same(least_wakers(example_web(), target=[]), [()])
        self.same(least_wakers(plain_web(8, 1), target=()), [()])
        self.same(least_wakers(plain_web(8, 1)), [plain_web(8).names])
        self.same(least_wakers(plain_web(8)), [()])

    def test_all(self):
        for web in small_webs():
            for target in subsets(web.names):
                found = [world for world in worlds_of(web) if set(target) <= set(closure_of(web, world))]
                least = [world for world in found if len(world) == len(found[0])]
                self.same(least_wakers(web, target=target[::-1]), least)

    def test_refused(self):
        web = plain_web(9)
        self.refuses(UnknownFolk("q"), least_wakers, web, target=["m", "q"])
        self.refuses(Repeated("m"), least_wakers, web, target=["m", "m"])
        for target in (None, [], ["m"]):
            self.refuses(TooLarge("folk", 8), least_wakers, web, target=target)
        with self.assertRaises(TypeError):
            least_wakers(example_web(), ["a"])


class Copies(Case):
    def test_what_is_passed_stays(self):
        web = example_web()
        awake, target, paper = ["d", "b"], ["c", "a"], [["b", ["a", "b"]], ["d", ["d"]]]
        before = (members(web, awake), thin_paper(web, awake), least_wakers(web, target=target), classes(web))
        self.assertIs(is_thin_paper(web, awake, paper), True)
        self.same(thinned(web, target), ("a",))
        class_join(web, awake, target)
        class_meet(web, awake, target)
        after = (members(web, awake), thin_paper(web, awake), least_wakers(web, target=target), classes(web))
        self.same(after, before)
        self.assertEqual(
            (awake, target, paper), (["d", "b"], ["c", "a"], [["b", ["a", "b"]], ["d", ["d"]]]),
        )

    def test_names_told_are_of_pythons_own_kind(self):
        web = plain_web(2, 1)
        self.same(members(web, [Text("c")]), [("c",)])
        self.same(thin_paper(web, [Text("c")]), [("c", ("m", "c"))])
        self.refuses(NotThin("c"), thin_paper, plain_web(2), [Text("c")])

"""Points 48 to 51: keepers, webs that let the same deeds or have the same classes, lightest webs."""

import itertools

from drowsefolk.errors import OtherFolk, TooLarge, UnknownFolk
from drowsefolk.lightest import (
    class_difference, deed_difference, is_finer, keepers, lightest, same_classes, same_deeds,
)
from drowsefolk.webs import Web, with_folk, with_need, with_watch
from tests.helpers import Case, Text, example_web, names_for, plain_web, small_webs, subsets
from tests.slow import closure_of, distances_from, in_world_order, may, nests_of, weight_from, worlds_of

TWO_WEBS = (same_deeds, deed_difference, same_classes, class_difference, is_finer)


def watched_web(watchers, need=2, number=10):
    """A web in which so many folk watch the first one."""
    names = names_for(number)
    return Web([(name, need) for name in names], [(name, names[0], 1) for name in names[1:watchers + 1]])


def webs_with_neighbours():
    """Pairs of webs with the same folk: small webs, each with itself and with webs in which one thing differs."""
    found = []
    for web in small_webs():
        others = [web, Web(web.folk), Web(web.folk, [(one, other, weight + 1) for one, other, weight in web.watches])]
        others.extend([with_need(web, name, need) for name in web.names for need in (0, 2, 5)])
        for watcher, watched in itertools.permutations(web.names[:3], 2):
            others.extend([with_watch(web, watcher, watched, weight) for weight in (0, 1, 3)])
        found.extend([(web, other) for other in others])
    webs = [web for web in small_webs() if len(web.names) == 3]
    found.extend([(one, other) for one in webs for other in webs if one.names == other.names])
    return found


class Keepers(Case):
    def test_ordinary(self):
        web = example_web()
        self.same(keepers(web, "c"), [("a", "b")])
        self.same(keepers(web, "a"), [("b",)])
        self.same(keepers(web, "d"), [])
        web = Web(
            [("z", 0), ("a", 5), ("m", 0), ("q", 0)], [("z", "a", 3), ("m", "a", 5), ("q", "a", 2), ("a", "q", 1)],
        )
        self.same(keepers(web, "a"), [("m",), ("z", "q")])
        self.same(keepers(with_need(web, "a", 6), "a"), [("z", "m"), ("m", "q")])
        self.same(keepers(with_need(web, "a", 10), "a"), [("z", "m", "q")])

    def test_need_0_and_one_who_can_never_turn(self):
        web = Web([("a", 0), ("b", 9)], [("a", "b", 8), ("b", "a", 1)])
        self.same(keepers(web, "a"), [()])
        self.same(keepers(web, "b"), [])
        self.same(keepers(plain_web(10), "m"), [()])
        self.same(keepers(plain_web(10, 1), "m"), [])

    def test_all(self):
        for web in small_webs():
            for name in web.names:
                watchers = [one for one in web.names if web.weight(one, name) > 0]
                found = []
                for group in in_world_order(web, subsets(watchers)):
                    weights = [weight_from(web, group, name) - web.weight(one, name) for one in group]
                    enough = weight_from(web, group, name) >= web.need(name)
                    if enough and all(weight < web.need(name) for weight in weights):
                        found.append(group)
                self.same(keepers(web, name), found)

    def test_six_and_seven_watchers(self):
        self.same(len(keepers(watched_web(6), "m")), 15)
        for need in (0, 2, 9999):
            self.refuses(TooLarge("watchers", 6), keepers, watched_web(7, need), "m")
            self.refuses(TooLarge("watchers", 6), keepers, watched_web(9, need), "m")
        self.same(keepers(watched_web(9), "c"), [])

    def test_refused(self):
        self.refuses(UnknownFolk("q"), keepers, watched_web(7), "q")
        self.refuses(UnknownFolk(""), keepers, example_web(), "")


class Deeds(Case):
    def test_ordinary(self):
        web = example_web()
        self.assertIs(same_deeds(web, example_web()), True)
        self.same(deed_difference(web, example_web()), None)
        # What matters is who may turn, not the numbers.
        self.assertIs(same_deeds(web, with_need(web, "d", 4)), True)
        self.assertIs(same_deeds(web, with_watch(web, "b", "a", 9)), True)
        self.assertIs(same_deeds(web, with_need(web, "d", 2)), False)
        self.same(deed_difference(web, with_need(web, "d", 2)), (("c",), "d"))
        self.same(deed_difference(web, with_need(web, "c", 1)), (("a",), "c"))
        self.same(deed_difference(web, with_need(web, "c", 3)), (("a", "b"), "c"))
        self.same(deed_difference(web, with_need(web, "c", 0)), ((), "c"))

    def test_the_name_is_chosen_first(self):
        web = Web([("z", 2), ("a", 0), ("m", 0)], [("a", "z", 1), ("m", "z", 1)])
        # a differs in a smaller world, but z comes first in folk order.
        other = with_need(with_need(web, "z", 3), "a", 1)
        self.same(deed_difference(web, other), (("a", "m"), "z"))
        self.same(deed_difference(web, with_need(web, "a", 1)), ((), "a"))

    def test_over_all_worlds(self):
        for one, other in webs_with_neighbours():
            found = [
                (world, name) for name in one.names for world in worlds_of(one)
                if may(one, world, name) != may(other, world, name)
            ]
            self.assertIs(same_deeds(one, other), not found)
            self.same(deed_difference(one, other), found[0] if found else None)
            kept = all(keepers(one, name) == keepers(other, name) for name in one.names)
            self.assertIs(kept, not found)

    def test_watchers_are_counted_over_both_webs(self):
        names = names_for(8)
        folk = [(name, 1) for name in names]
        one = Web(folk, [(name, "m", 1) for name in names[1:5]])
        other = Web(folk, [(name, "m", 1) for name in names[3:7]])
        # Six unlike folk watch m, two of them in both webs.
        self.assertIs(same_deeds(one, other), False)
        self.same(deed_difference(one, other), (("c",), "m"))
        more = Web(folk, [(name, "m", 1) for name in names[4:8]])
        for call in (same_deeds, deed_difference):
            self.refuses(TooLarge("watchers", 6), call, one, more)
            self.refuses(TooLarge("watchers", 6), call, more, one)
            # Also where the webs differ elsewhere already, and where the seven do not matter.
            self.refuses(TooLarge("watchers", 6), call, with_need(watched_web(7), "c", 0), watched_web(0))
            self.refuses(TooLarge("watchers", 6), call, watched_web(7, 0), watched_web(7, 0))
            late = Web([("q", 1)] + folk, [(name, names[7], 1) for name in names[:7]])
            self.refuses(TooLarge("watchers", 6), call, late, with_need(late, "q", 0))
        self.assertIs(same_deeds(watched_web(6), watched_web(6)), True)


class Classes(Case):
    def test_ordinary(self):
        web = example_web()
        self.assertIs(same_classes(web, example_web()), True)
        self.same(class_difference(web, example_web()), None)
        other = with_need(web, "d", 2)
        self.assertIs(same_classes(web, other), False)
        self.same(class_difference(web, other), (("a",), ("a", "b", "c", "d")))
        self.same(class_difference(other, web), (("a",), ("a", "b", "c", "d")))
        self.assertIs(is_finer(web, other), True)
        self.assertIs(is_finer(other, web), False)
        self.assertIs(is_finer(web, web), True)

    def test_the_same_classes_without_the_same_deeds(self):
        one = Web([("a", 0), ("b", 0)])
        other = Web([("a", 0), ("b", 1)], [("a", "b", 1)])
        self.assertIs(same_deeds(one, other), False)
        self.assertIs(same_classes(one, other), True)
        self.same(class_difference(one, other), None)
        self.assertIs(is_finer(one, other) and is_finer(other, one), True)

    def test_neither_closure_is_part_of_the_other(self):
        folk = [("z", 1), ("a", 1), ("m", 1)]
        one = Web(folk, [("z", "a", 1)])
        other = Web(folk, [("z", "m", 1)])
        self.same(class_difference(one, other), (("z",), ("z", "a")))
        self.same(class_difference(other, one), (("z",), ("z", "m")))
        self.assertIs(is_finer(one, other) or is_finer(other, one), False)

    def test_over_all_worlds(self):
        for one, other in webs_with_neighbours():
            worlds = worlds_of(one)
            finer = all(set(distances_from(one, world)) <= set(distances_from(other, world)) for world in worlds)
            coarser = all(set(distances_from(one, world)) >= set(distances_from(other, world)) for world in worlds)
            self.assertIs(is_finer(one, other), finer)
            self.assertIs(same_classes(one, other), finer and coarser)
            self.assertIs(set(nests_of(other)) <= set(nests_of(one)), finer)
            if same_deeds(one, other):
                self.assertTrue(finer and coarser)
            expected = None
            for world in worlds[::-1]:
                first, second = closure_of(one, world), closure_of(other, world)
                if first != second:
                    expected = (world, first if not set(first) <= set(second) else second)
            self.same(class_difference(one, other), expected)
            if expected is not None:
                in_one = expected[1] in distances_from(one, expected[0])
                self.assertNotEqual(in_one, expected[1] in distances_from(other, expected[0]))

    def test_eight_and_nine_folk(self):
        for call in (same_classes, class_difference, is_finer):
            for number in (9, 10):
                self.refuses(TooLarge("folk", 8), call, plain_web(number), plain_web(number))
            call(plain_web(8), plain_web(8, 1))
        self.assertIs(same_classes(plain_web(8), plain_web(8)), True)
        self.assertIs(is_finer(plain_web(8, 1), plain_web(8)), True)


class OtherNames(Case):
    def test_the_first_place(self):
        one = Web([("a", 0), ("b", 0), ("c", 0)])
        for call in TWO_WEBS:
            self.refuses(OtherFolk(0), call, one, Web([("b", 0), ("a", 0), ("c", 0)]))
            self.refuses(OtherFolk(1), call, one, Web([("a", 0), ("c", 0), ("b", 0)]))
            self.refuses(OtherFolk(2), call, one, Web([("a", 0), ("b", 0)]))
            self.refuses(OtherFolk(2), call, Web([("a", 0), ("b", 0)]), one)
            self.refuses(OtherFolk(3), call, one, with_folk(one, "d", 0))
            self.refuses(OtherFolk(1), call, Web([("a", 0)]), one)

    def test_ahead_of_the_limits(self):
        for call in TWO_WEBS:
            self.refuses(OtherFolk(9), call, watched_web(7), watched_web(7, 2, 9))
            self.refuses(OtherFolk(8), call, plain_web(8), watched_web(8, 2, 9))
        for call in (same_deeds, deed_difference):
            # Ten folk are not too many here, nor are seven watchers for the classes.
            call(plain_web(10), plain_web(10))
        for call in (same_classes, class_difference, is_finer):
            call(watched_web(7, 2, 8), watched_web(7, 2, 8))


def slow_lightest(web, name):
    """The need and the weights of the watchers of one of the folk by the words of point 51."""
    watchers = [one for one in web.names if web.weight(one, name) > 0]
    rights = [may(web, group, name) for group in subsets(watchers)]
    for total in range(12):
        for need in range(14):
            for weights in itertools.product(range(total + 1), repeat=len(watchers)):
                if sum(weights) == total:
                    table = dict(zip(watchers, weights))
                    if [sum(table[one] for one in group) >= need for group in subsets(watchers)] == rights:
                        return need, [(one, name, weight) for one, weight in table.items() if weight > 0]
    raise AssertionError("no choice found")


class Lightest(Case):
    def test_ordinary(self):
        web = Web(
            [("a", 0), ("b", 7), ("c", 30), ("d", 12)],
            [("c", "a", 5), ("a", "b", 8), ("c", "b", 3), ("d", "b", 4), ("a", "c", 10), ("b", "c", 19),
             ("a", "d", 5), ("b", "d", 6), ("c", "d", 7)],
        )
        expected = Web(
            [("a", 0), ("b", 2), ("c", 1), ("d", 3)],
            [("a", "b", 2), ("c", "b", 1), ("d", "b", 1), ("b", "d", 1), ("c", "d", 2), ("a", "d", 1)],
        )
        # d wakes by b and c or by a and c, but not by a and b.
        changed = with_need(with_watch(web, "c", "d", 9), "d", 13)
        self.assertIs(lightest(changed) == expected, True)

    def test_need_0_and_one_who_can_never_turn(self):
        web = Web([("a", 0), ("b", 9), ("c", 9999)], [("b", "a", 7), ("a", "b", 4), ("c", "b", 4)])
        self.assertTrue(lightest(web) == Web([("a", 0), ("b", 1), ("c", 1)]))
        self.assertTrue(lightest(plain_web(10)) == plain_web(10))
        self.assertTrue(lightest(plain_web(10, 77)) == plain_web(10, 1))

    def test_one_who_does_not_matter(self):
        web = Web([("a", 10), ("b", 0), ("c", 0), ("d", 0)], [("b", "a", 10), ("c", "a", 4), ("d", "a", 5)])
        self.assertTrue(lightest(web) == Web([("a", 1), ("b", 0), ("c", 0), ("d", 0)], [("b", "a", 1)]))

    def test_all_choices(self):
        for web in small_webs():
            found = lightest(web)
            folk, watches = [], []
            for name in web.names:
                need, rows = slow_lightest(web, name)
                folk.append((name, need))
                watches.extend(rows)
            self.assertTrue(found == Web(folk, watches))
            self.assertIs(same_deeds(web, found), True)
            self.assertTrue(lightest(found) == found)

    def test_four_watchers(self):
        for weights in itertools.combinations_with_replacement((1, 2, 3, 5), 4):
            for need in range(1, sum(weights) + 2, 2):
                web = Web([("z", need), ("a", 0), ("m", 0), ("c", 0), ("b", 0)], [
                    (name, "z", weight) for name, weight in zip("amcb", weights)
                ])
                found = lightest(web)
                self.assertIs(same_deeds(web, found), True)
                least, rows = slow_lightest(web, "z")
                self.same((found.need("z"), list(found.watches)), (least, rows))

    def test_the_same_for_all_webs_with_the_same_deeds(self):
        for one, other in webs_with_neighbours():
            self.assertIs(lightest(one) == lightest(other), same_deeds(one, other))

    def test_four_and_five_watchers(self):
        self.assertTrue(lightest(watched_web(4, 8)) == plain_web(10, 1))
        for need in (0, 2, 9999):
            self.refuses(TooLarge("watchers", 4), lightest, watched_web(5, need))
        names = names_for(6)
        last = Web([(name, 0) for name in names], [(name, names[5], 1) for name in names[:5]])
        self.refuses(TooLarge("watchers", 4), lightest, last)

    def test_great_numbers(self):
        web = Web([("a", 9999), ("b", 0), ("c", 0)], [("b", "a", 9998), ("c", "a", 1)])
        self.assertTrue(lightest(web) == Web([("a", 2), ("b", 0), ("c", 0)], [("b", "a", 1), ("c", "a", 1)]))


class Copies(Case):
    def test_what_is_passed_stays(self):
        web, other = example_web(), with_need(example_web(), "d", 2)
        before = (keepers(web, "c"), deed_difference(web, other), class_difference(web, other), lightest(web).watches)
        keepers(web, "c").clear()
        same_deeds(other, web)
        after = (keepers(web, "c"), deed_difference(web, other), class_difference(web, other), lightest(web).watches)
        self.same(after, before)
        self.assertTrue(web == example_web())

    def test_names_told_are_of_pythons_own_kind(self):
        web = Web([(Text("a"), 1), ("b", 0)], [("b", Text("a"), 1)])
        self.same(keepers(web, Text("a")), [("b",)])
        self.same(deed_difference(web, with_need(web, "a", 0)), ((), "a"))

"""Points 10, 11 and 12: webs and worlds, with points 2, 4 and 5 for them."""

import itertools

from drowsefolk.errors import (
    BadCount, BadName, BadNumber, Repeated, SelfWatch, TooLarge, UnknownFolk,
)
from drowsefolk.webs import Web, all_worlds, differing, sleepers, world_key, world_of
from tests.helpers import Case, Number, Text, example_web, full_web, names_for, plain_web, small_webs, subsets


class Building(Case):
    def test_one_member(self):
        web = Web([("a", 0)])
        self.same(web.names, ("a",))
        self.same(web.folk, (("a", 0),))
        self.same(web.watches, ())

    def test_ten_folk_in_the_order_passed(self):
        names = names_for(10)
        web = Web([(name, place) for place, name in enumerate(names)])
        self.same(web.names, tuple(names))
        self.same(web.folk, tuple((name, place) for place, name in enumerate(names)))

    def test_watches_left_out(self):
        self.assertTrue(Web([("a", 1), ("b", 2)]) == Web([("a", 1), ("b", 2)], []))
        self.assertTrue(Web([("a", 1), ("b", 2)]) == Web([("a", 1), ("b", 2)], ()))

    def test_lists_and_tuples_mixed(self):
        expected = Web([("a", 1), ("b", 2)], [("a", "b", 3), ("b", "a", 4)])
        for folk in ([["a", 1], ("b", 2)], (("a", 1), ["b", 2]), (["a", 1], ["b", 2])):
            for watches in ([["a", "b", 3], ("b", "a", 4)], (("a", "b", 3), ["b", "a", 4])):
                web = Web(folk, watches)
                self.assertTrue(web == expected)
                self.same(web.folk, (("a", 1), ("b", 2)))
                self.same(web.watches, (("b", "a", 4), ("a", "b", 3)))

    def test_watches_in_any_order_are_told_in_pair_order(self):
        names = ["z", "a", "m"]
        pairs = [("a", "z"), ("m", "z"), ("z", "a"), ("m", "a"), ("z", "m"), ("a", "m")]
        watches = [(watcher, watched, at + 1) for at, (watcher, watched) in enumerate(pairs)]
        for order in itertools.permutations(watches):
            web = Web([(name, 1) for name in names], order)
            self.same(web.watches, tuple(watches))
            self.assertTrue(web == Web([(name, 1) for name in names], watches))

    def test_twenty_four_watches(self):
        self.assertEqual(len(full_web(24).watches), 24)

    def test_bounds_of_need_and_weight(self):
        web = Web([("a", 0), ("b", 9999)], [("a", "b", 1), ("b", "a", 9999)])
        self.same(web.folk, (("a", 0), ("b", 9999)))
        self.same(web.watches, (("b", "a", 9999), ("a", "b", 1)))

    def test_kinds_made_from_pythons_own_do_not_stay(self):
        web = Web([(Text("a"), Number(3)), (Text("b"), 1)], [(Text("a"), Text("b"), Number(2))])
        self.same(web.names, ("a", "b"))
        self.same(web.folk, (("a", 3), ("b", 1)))
        self.same(web.watches, (("a", "b", 2),))
        self.same(web.need("a"), 3)
        self.same(web.weight("a", "b"), 2)


class BuildingRefused(Case):
    def test_number_of_folk(self):
        self.refuses(BadCount("folk", 0), Web, [])
        self.refuses(BadCount("folk", 0), Web, (), [("a", "b", 0)])
        for number in (11, 12):
            self.refuses(BadCount("folk", number), Web, [(name, 1) for name in names_for(number)])

    def test_names(self):
        for name in ("", "A", "1a", "abcdefghi", "a b", "a\n", "-", "*", "x" * 60):
            self.refuses(BadName(name), Web, [("a", 1), (name, 1)])

    def test_needs(self):
        for need in (-1, 10000, True, False, 10 ** 59, -(10 ** 59)):
            self.refuses(BadNumber(need), Web, [("a", 1), ("b", need)])

    def test_names_twice(self):
        self.refuses(Repeated("a"), Web, [("a", 1), ("b", 1), ("a", 2)])
        self.refuses(Repeated("b"), Web, [("a", 1), ("b", 1), ("b", 1), ("a", 2)])

    def test_order_within_a_pair_of_folk(self):
        self.refuses(BadName("A"), Web, [("A", -1)])
        self.refuses(BadNumber(-1), Web, [("a", 1), ("a", -1)])
        self.refuses(BadNumber(True), Web, [("a", 1), ("a", True)])

    def test_pair_by_pair(self):
        self.refuses(BadNumber(-1), Web, [("a", -1), ("B", 1)])
        self.refuses(Repeated("a"), Web, [("a", 1), ("a", 1), ("B", 1)])
        self.refuses(BadName("B"), Web, [("a", 1), ("B", 1), ("a", 1)])

    def test_the_number_comes_before_the_pairs(self):
        self.refuses(BadCount("folk", 11), Web, [("A", -1)] * 11)

    def test_folk_come_before_watches(self):
        self.refuses(BadNumber(-1), Web, [("a", -1)], [("a", "a", 1)] * 25)
        self.refuses(BadCount("folk", 0), Web, [], [("a", "a", 1)] * 25)
        self.refuses(Repeated("a"), Web, [("a", 1), ("a", 1)], [("x", "a", 1)])

    def test_number_of_watches(self):
        for number in (25, 30):
            names = names_for(6)
            pairs = [(one, other, 1) for one in names for other in names if one != other]
            self.refuses(BadCount("watches", number), Web, [(name, 1) for name in names], pairs[:number])

    def test_the_number_comes_before_the_watches(self):
        self.refuses(BadCount("watches", 25), Web, [("a", 1)], [("x", "y", 0)] * 25)

    def test_unknown_folk(self):
        folk = [("a", 1), ("b", 1)]
        self.refuses(UnknownFolk("x"), Web, folk, [("x", "a", 1)])
        self.refuses(UnknownFolk("x"), Web, folk, [("a", "x", 1)])
        self.refuses(UnknownFolk("A b"), Web, folk, [("A b", "a", 1)])
        self.refuses(UnknownFolk(""), Web, folk, [("a", "", 1)])

    def test_weights(self):
        folk = [("a", 1), ("b", 1)]
        for weight in (0, -1, 10000, True, False, 10 ** 59):
            self.refuses(BadNumber(weight), Web, folk, [("a", "b", weight)])

    def test_self_watches(self):
        self.refuses(SelfWatch("a"), Web, [("a", 1), ("b", 1)], [("a", "b", 1), ("a", "a", 1)])

    def test_pairs_twice(self):
        folk = [("a", 1), ("b", 1)]
        self.refuses(Repeated(("a", "b")), Web, folk, [("a", "b", 1), ("b", "a", 1), ("a", "b", 2)])
        self.refuses(Repeated(("b", "a")), Web, folk, [["b", "a", 1], ["b", "a", 1]])

    def test_order_within_a_watch(self):
        folk = [("a", 1), ("b", 1)]
        self.refuses(UnknownFolk("x"), Web, folk, [("x", "y", 0)])
        self.refuses(UnknownFolk("x"), Web, folk, [("x", "x", 0)])
        self.refuses(UnknownFolk("y"), Web, folk, [("a", "y", 0)])
        self.refuses(BadNumber(0), Web, folk, [("a", "a", 0)])
        self.refuses(BadNumber(True), Web, folk, [("a", "a", True)])
        self.refuses(BadNumber(0), Web, folk, [("a", "b", 1), ("a", "b", 0)])

    def test_watch_by_watch(self):
        folk = [("a", 1), ("b", 1)]
        self.refuses(SelfWatch("a"), Web, folk, [("a", "a", 1), ("x", "b", 1)])
        self.refuses(BadNumber(0), Web, folk, [("a", "b", 0), ("b", "b", 1)])
        self.refuses(UnknownFolk("x"), Web, folk, [("x", "b", 1), ("b", "b", 1)])
        self.refuses(Repeated(("a", "b")), Web, folk, [("a", "b", 1), ("a", "b", 1), ("a", "a", 1)])


class Asking(Case):
    def test_need(self):
        web = example_web()
        self.same([web.need(name) for name in "abcd"], [1, 1, 2, 3])

    def test_weight(self):
        web = example_web()
        weights = {(watcher, watched): weight for watcher, watched, weight in web.watches}
        for watcher in "abcd":
            for watched in "abcd":
                self.same(web.weight(watcher, watched), weights.get((watcher, watched), 0))

    def test_watchers_and_watched_by_in_folk_order(self):
        web = Web([("z", 1), ("a", 1), ("m", 1)], [("m", "a", 1), ("z", "a", 1), ("a", "m", 2), ("a", "z", 1)])
        self.same(web.watchers("a"), ("z", "m"))
        self.same(web.watchers("z"), ("a",))
        self.same(web.watched_by("a"), ("z", "m"))
        self.same(web.watched_by("m"), ("a",))
        self.same(example_web().watchers("c"), ("a", "b"))
        self.same(example_web().watched_by("d"), ())
        self.same(plain_web(2).watchers("m"), ())

    def test_unknown_names(self):
        web = example_web()
        for name in ("x", "", "A", "a ", "a\n", "y" * 60):
            self.refuses(UnknownFolk(name), web.need, name)
            self.refuses(UnknownFolk(name), web.watchers, name)
            self.refuses(UnknownFolk(name), web.watched_by, name)
            self.refuses(UnknownFolk(name), web.weight, name, "a")
            self.refuses(UnknownFolk(name), web.weight, "a", name)
            self.refuses(UnknownFolk(name), web.weight, name, "q")
            self.refuses(UnknownFolk(name), web.weight, name, name)

    def test_in(self):
        web = example_web()
        for name in "abcd":
            self.assertIs(name in web, True)
        for name in ("x", "", "A", "ab", "a\n", "z" * 60):
            self.assertIs(name in web, False)
            self.assertIs(name not in web, True)

    def test_iteration(self):
        self.same(list(plain_web(10)), names_for(10))
        web = example_web()
        self.same([name for name in web], ["a", "b", "c", "d"])
        self.same([(one, other) for one in web for other in web][:5],
                  [("a", "a"), ("a", "b"), ("a", "c"), ("a", "d"), ("b", "a")])

    def test_equal_webs(self):
        folk = [("a", 1), ("b", 2)]
        watches = [("a", "b", 1)]
        web = Web(folk, watches)
        self.assertIs(web == Web(folk, watches), True)
        self.assertIs(web != Web(folk, watches), False)
        self.assertIs(web == web, True)
        for other in (
            Web(folk), Web(folk, [("a", "b", 2)]), Web(folk, [("b", "a", 1)]), Web(folk[::-1], watches),
            Web([("a", 1), ("b", 1)], watches), Web([("a", 1), ("c", 2)], [("a", "c", 1)]),
            Web(folk + [("c", 0)], watches),
        ):
            self.assertIs(web == other, False)
            self.assertIs(other == web, False)
            self.assertIs(web != other, True)

    def test_the_properties_cannot_be_set(self):
        web = example_web()
        for name in ("names", "folk", "watches"):
            with self.assertRaises(AttributeError):
                setattr(web, name, ())
        self.assertTrue(web == example_web())


class Copies(Case):
    def test_the_web_stays_when_the_lists_change(self):
        folk = [["a", 1], ["b", 2]]
        watches = [["a", "b", 3], ["b", "a", 4]]
        web = Web(folk, watches)
        self.assertEqual((folk, watches), ([["a", 1], ["b", 2]], [["a", "b", 3], ["b", "a", 4]]))
        folk[0][1] = 7
        folk.append(["c", 1])
        watches[0][2] = 9
        del watches[1]
        self.assertTrue(web == Web([("a", 1), ("b", 2)], [("a", "b", 3), ("b", "a", 4)]))
        self.same(web.folk, (("a", 1), ("b", 2)))
        self.same(web.watches, (("b", "a", 4), ("a", "b", 3)))
        self.same(web.weight("a", "b"), 3)

    def test_worlds_leave_what_is_passed(self):
        web = example_web()
        awake = ["d", "a"]
        target = ["c", "a"]
        self.same(world_of(web, awake), ("a", "d"))
        self.same(sleepers(web, awake), ("b", "c"))
        self.same(differing(web, awake, target), ("c", "d"))
        self.same(world_key(web, awake), (2, (0, 3)))
        self.assertEqual((awake, target), (["d", "a"], ["c", "a"]))

    def test_a_list_that_is_returned_is_new(self):
        web = plain_web(2)
        worlds = all_worlds(web)
        worlds.clear()
        self.same(all_worlds(web), [(), ("m",), ("c",), ("m", "c")])

    def test_equal_answers_when_asked_again(self):
        web = example_web()
        for names in subsets(web.names):
            before = (world_of(web, names), sleepers(web, names), world_key(web, names))
            all_worlds(web)
            differing(web, names, ["a"])
            Web([("q", 1)])
            self.same((world_of(web, names), sleepers(web, names), world_key(web, names)), before)


class Worlds(Case):
    def test_names_in_any_order(self):
        web = Web([("z", 1), ("a", 1), ("m", 1)])
        for order in itertools.permutations(["z", "a", "m"]):
            self.same(world_of(web, list(order)), ("z", "a", "m"))
            self.same(world_of(web, order), ("z", "a", "m"))
            self.same(sleepers(web, order), ())
        self.same(world_of(web, ["m", "z"]), ("z", "m"))
        self.same(world_of(web, []), ())
        self.same(sleepers(web, ()), ("z", "a", "m"))
        self.same(sleepers(web, ["m"]), ("z", "a"))

    def test_differing(self):
        web = Web([("z", 1), ("a", 1), ("m", 1)])
        for one in subsets(web.names):
            for other in subsets(web.names):
                expected = tuple(name for name in web.names if (name in one) != (name in other))
                self.same(differing(web, one, list(other)[::-1]), expected)

    def test_world_key(self):
        web = Web([("z", 1), ("a", 1), ("m", 1)])
        self.same(world_key(web, []), (0, ()))
        self.same(world_key(web, ["m"]), (1, (2,)))
        self.same(world_key(web, ["m", "z"]), (2, (0, 2)))
        self.same(world_key(web, ["m", "a", "z"]), (3, (0, 1, 2)))
        self.same(world_key(plain_web(10), names_for(10)), (10, tuple(range(10))))

    def test_names_arguments_refused(self):
        web = example_web()
        for call in (world_of, sleepers, world_key):
            self.refuses(UnknownFolk("x"), call, web, ["a", "x", "a"])
            self.refuses(Repeated("a"), call, web, ["a", "b", "a", "x"])
            self.refuses(Repeated("b"), call, web, ["a", "b", "b", "a"])
            self.refuses(UnknownFolk("x"), call, web, ["x", "x"])
            self.refuses(UnknownFolk(""), call, web, [""])
            self.refuses(UnknownFolk("A"), call, web, ("A",))

    def test_differing_refused(self):
        web = example_web()
        self.refuses(UnknownFolk("x"), differing, web, ["x"], ["a", "a"])
        self.refuses(Repeated("b"), differing, web, ["b", "b"], ["x"])
        self.refuses(UnknownFolk("y"), differing, web, ["a"], ["y"])
        self.refuses(Repeated("c"), differing, web, ["a"], ["c", "c"])
        self.refuses(UnknownFolk("x"), differing, web, ["x"], ["y"])

    def test_all_worlds_told(self):
        self.same(all_worlds(Web([("z", 1)])), [(), ("z",)])
        web = Web([("z", 1), ("a", 1), ("m", 1)])
        self.same(all_worlds(web), [
            (), ("z",), ("a",), ("m",), ("z", "a"), ("z", "m"), ("a", "m"), ("z", "a", "m"),
        ])

    def test_all_worlds_of_one_to_eight_folk(self):
        for number in range(1, 9):
            web = plain_web(number)
            worlds = all_worlds(web)
            self.same(worlds, subsets(web.names))
            self.assertEqual(len(worlds), 2 ** number)
            keys = [world_key(web, world) for world in worlds]
            self.assertEqual(keys, sorted(keys))

    def test_all_worlds_of_more_folk(self):
        self.refuses(TooLarge("folk", 8), all_worlds, plain_web(9))
        self.refuses(TooLarge("folk", 8), all_worlds, plain_web(10))

    def test_worlds_of_small_webs(self):
        for web in small_webs():
            for names in subsets(web.names):
                self.same(world_of(web, names[::-1]), names)

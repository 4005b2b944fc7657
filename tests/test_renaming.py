"""Point 16: renamings."""

import itertools

from drowsefolk.errors import BadCount, BadName, Repeated, UnknownFolk
from drowsefolk.renaming import Renaming, renamed, renamed_world
from drowsefolk.webs import Web
from tests.helpers import Case, Text, example_web, names_for, plain_web, small_webs, subsets


class Building(Case):
    def test_one_and_ten_pairs(self):
        self.same(Renaming([("a", "b")]).pairs, (("a", "b"),))
        names = names_for(10)
        pairs = list(zip(names, names[1:] + names[:1]))
        self.same(Renaming(pairs).pairs, tuple(pairs))

    def test_the_order_passed(self):
        self.same(Renaming([["z", "b"], ("a", "c")]).pairs, (("z", "b"), ("a", "c")))
        self.same(Renaming((("m", "a"), ["a", "m"])).pairs, (("m", "a"), ("a", "m")))

    def test_number_of_pairs(self):
        self.refuses(BadCount("pairs", 0), Renaming, [])
        self.refuses(BadCount("pairs", 0), Renaming, ())
        for number in (11, 12):
            self.refuses(BadCount("pairs", number), Renaming, [(name, name) for name in names_for(number)])

    def test_names(self):
        for name in ("", "A", "1a", "abcdefghi", "a\n", "*"):
            self.refuses(BadName(name), Renaming, [("a", "b"), (name, "c")])
            self.refuses(BadName(name), Renaming, [("a", "b"), ("c", name)])

    def test_repeated(self):
        self.refuses(Repeated("a"), Renaming, [("a", "b"), ("c", "d"), ("a", "e")])
        self.refuses(Repeated("b"), Renaming, [("a", "b"), ("c", "d"), ("e", "b")])

    def test_order_within_a_pair(self):
        self.refuses(BadName("A"), Renaming, [("A", "B")])
        self.refuses(BadName("B"), Renaming, [("a", "b"), ("a", "B")])
        self.refuses(BadName("A"), Renaming, [("a", "b"), ("A", "b")])
        self.refuses(Repeated("a"), Renaming, [("a", "b"), ("a", "b")])

    def test_several_at_once(self):
        self.refuses(BadCount("pairs", 11), Renaming, [("A", "A")] * 11)
        self.refuses(Repeated("a"), Renaming, [("a", "b"), ("a", "c"), ("A", "d")])
        self.refuses(BadName("A"), Renaming, [("a", "b"), ("A", "d"), ("a", "c")])
        self.refuses(Repeated("b"), Renaming, [("a", "b"), ("c", "b"), ("a", "d")])

    def test_kinds_made_from_pythons_own_do_not_stay(self):
        renaming = Renaming([(Text("a"), Text("b"))])
        self.same(renaming.pairs, (("a", "b"),))
        self.same(renaming("a"), "b")

    def test_the_renaming_stays_when_the_list_changes(self):
        pairs = [["a", "b"], ["c", "d"]]
        renaming = Renaming(pairs)
        pairs[0][1] = "q"
        pairs.clear()
        self.same(renaming.pairs, (("a", "b"), ("c", "d")))
        self.same(renaming("a"), "b")


class Using(Case):
    def test_calling(self):
        renaming = Renaming([("a", "b"), ("b", "a"), ("c", "x")])
        self.same([renaming("a"), renaming("b"), renaming("c")], ["b", "a", "x"])

    def test_calling_with_a_stranger(self):
        renaming = Renaming([("a", "b")])
        for name in ("b", "x", "", "A", "a "):
            self.refuses(UnknownFolk(name), renaming, name)

    def test_product(self):
        first = Renaming([("c", "y"), ("a", "x"), ("b", "z")])
        second = Renaming([("x", "one"), ("y", "two"), ("z", "three"), ("w", "four")])
        self.same((second * first).pairs, (("c", "two"), ("a", "one"), ("b", "three")))
        self.same(second.pairs, (("x", "one"), ("y", "two"), ("z", "three"), ("w", "four")))
        self.same(first.pairs, (("c", "y"), ("a", "x"), ("b", "z")))

    def test_product_refused(self):
        first = Renaming([("a", "x"), ("b", "y"), ("c", "z")])
        second = Renaming([("z", "a"), ("x", "b")])
        self.refuses(UnknownFolk("y"), lambda: second * first)
        self.refuses(UnknownFolk("a"), lambda: Renaming([("z", "a")]) * Renaming([("k", "a"), ("l", "b")]))
        self.refuses(UnknownFolk("b"), lambda: Renaming([("a", "z")]) * Renaming([("k", "a"), ("l", "b"), ("m", "c")]))

    def test_product_of_three(self):
        one = Renaming([("a", "b"), ("b", "c"), ("c", "a")])
        self.same((one * one).pairs, (("a", "c"), ("b", "a"), ("c", "b")))
        self.assertTrue(one * one * one == Renaming.same(["a", "b", "c"]))

    def test_back(self):
        renaming = Renaming([("c", "y"), ("a", "x"), ("b", "a")])
        self.same((-renaming).pairs, (("y", "c"), ("x", "a"), ("a", "b")))
        self.same((-(-renaming)).pairs, renaming.pairs)
        self.same((-renaming * renaming).pairs, (("c", "c"), ("a", "a"), ("b", "b")))
        self.same((renaming * -renaming).pairs, (("y", "y"), ("x", "x"), ("a", "a")))

    def test_equal_in_any_order(self):
        pairs = [("a", "x"), ("b", "y"), ("c", "z")]
        renaming = Renaming(pairs)
        for order in itertools.permutations(pairs):
            self.assertIs(Renaming(order) == renaming, True)
            self.assertIs(Renaming(order) != renaming, False)

    def test_unequal(self):
        renaming = Renaming([("a", "x"), ("b", "y")])
        for pairs in (
            [("a", "x")], [("a", "x"), ("b", "y"), ("c", "z")], [("a", "y"), ("b", "x")], [("x", "a"), ("y", "b")],
            [("a", "x"), ("c", "y")],
        ):
            self.assertIs(renaming == Renaming(pairs), False)
            self.assertIs(Renaming(pairs) == renaming, False)
            self.assertIs(renaming != Renaming(pairs), True)

    def test_same(self):
        self.same(Renaming.same(["z", "a"]).pairs, (("z", "z"), ("a", "a")))
        self.same(Renaming.same(tuple(names_for(10))).pairs, tuple((name, name) for name in names_for(10)))

    def test_same_refused(self):
        self.refuses(BadCount("pairs", 0), Renaming.same, [])
        self.refuses(BadCount("pairs", 11), Renaming.same, ["A"] * 11)
        self.refuses(BadName("A"), Renaming.same, ["a", "A", "a"])
        self.refuses(Repeated("a"), Renaming.same, ["a", "b", "a", "B"])


class Renamed(Case):
    def test_new_names_in_the_old_places(self):
        web = example_web()
        renaming = Renaming([("d", "a"), ("q", "r"), ("c", "x"), ("a", "d"), ("b", "bb")])
        self.assertTrue(renamed(web, renaming) == Web(
            [("d", 1), ("bb", 1), ("x", 2), ("a", 3)],
            [("bb", "d", 1), ("d", "bb", 1), ("d", "x", 1), ("bb", "x", 1), ("x", "a", 2)],
        ))
        self.assertTrue(web == example_web())

    def test_names_exchanged_and_back(self):
        web = example_web()
        renaming = Renaming([("a", "b"), ("b", "c"), ("c", "d"), ("d", "a")])
        changed = renamed(web, renaming)
        self.same(changed.folk, (("b", 1), ("c", 1), ("d", 2), ("a", 3)))
        self.assertTrue(renamed(changed, -renaming) == web)
        self.assertTrue(renamed(web, Renaming.same(["d", "c", "b", "a"])) == web)

    def test_all_small_webs_and_back(self):
        for web in small_webs():
            names = list(web.names)
            renaming = Renaming(list(zip(names, names[1:] + ["new"])))
            changed = renamed(web, renaming)
            self.assertTrue(renamed(changed, -renaming) == web)
            for watcher in names:
                self.assertEqual(changed.need(renaming(watcher)), web.need(watcher))
                for watched in names:
                    self.assertEqual(changed.weight(renaming(watcher), renaming(watched)), web.weight(watcher, watched))

    def test_refused(self):
        web = example_web()
        self.refuses(UnknownFolk("b"), renamed, web, Renaming([("d", "x"), ("a", "y")]))
        self.refuses(UnknownFolk("a"), renamed, web, Renaming([("d", "x"), ("b", "y")]))
        self.refuses(UnknownFolk("d"), renamed, web, Renaming([("a", "x"), ("b", "y"), ("c", "z"), ("q", "d")]))


class RenamedWorld(Case):
    def test_in_folk_order(self):
        web = example_web()
        renaming = Renaming([("d", "a"), ("c", "x"), ("a", "d"), ("b", "bb"), ("q", "r")])
        for names in subsets(web.names):
            expected = tuple(renaming(name) for name in names)
            self.same(renamed_world(web, list(names)[::-1], renaming), expected)
        self.same(renamed_world(web, ["d", "a"], renaming), ("d", "a"))
        self.same(renamed_world(web, [], renaming), ())

    def test_and_back(self):
        web = example_web()
        renaming = Renaming([("a", "b"), ("b", "c"), ("c", "d"), ("d", "a")])
        for names in subsets(web.names):
            there = renamed_world(web, names, renaming)
            self.same(renamed_world(renamed(web, renaming), there, -renaming), names)

    def test_a_sleeper_without_an_old_name(self):
        web = example_web()
        renaming = Renaming([("a", "x"), ("d", "y"), ("c", "z")])
        for awake in ([], ["a"], ["b"], ["d", "c"]):
            self.refuses(UnknownFolk("b"), renamed_world, web, awake, renaming)

    def test_both_at_once(self):
        renaming = Renaming([("a", "x")])
        self.refuses(UnknownFolk("q"), renamed_world, example_web(), ["c", "q"], renaming)
        self.refuses(Repeated("c"), renamed_world, example_web(), ["c", "c"], renaming)

    def test_what_is_passed_stays(self):
        awake = ["c", "a"]
        renaming = Renaming([("b", "q"), ("a", "r"), ("c", "s"), ("d", "t")])
        before = renamed_world(example_web(), awake, renaming)
        renamed(example_web(), renaming)
        renamed_world(plain_web(1), [], Renaming([("m", "n")]))
        self.same(renamed_world(example_web(), awake, renaming), before)
        self.same(before, ("r", "s"))
        self.assertEqual(awake, ["c", "a"])

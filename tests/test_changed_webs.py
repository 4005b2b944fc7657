"""Point 12: changed webs, with points 4 and 5 for them."""

import itertools

from drowsefolk.errors import BadCount, BadName, BadNumber, Repeated, SelfWatch, UnknownFolk
from drowsefolk.webs import Web, sub_web, with_folk, with_need, with_watch, without_folk
from tests.helpers import Case, example_web, full_web, names_for, plain_web, small_webs, subsets


class WithNeed(Case):
    def test_ordinary(self):
        web = example_web()
        for need in (0, 1, 5, 9999):
            changed = with_need(web, "c", need)
            self.same(changed.folk, (("a", 1), ("b", 1), ("c", need), ("d", 3)))
            self.same(changed.watches, web.watches)
        self.same(with_need(web, "a", 7).folk, (("a", 7), ("b", 1), ("c", 2), ("d", 3)))
        self.same(with_need(web, "d", 7).folk, (("a", 1), ("b", 1), ("c", 2), ("d", 7)))

    def test_the_old_need(self):
        web = example_web()
        self.assertTrue(with_need(web, "c", 2) == web)

    def test_refused(self):
        web = example_web()
        self.refuses(UnknownFolk("x"), with_need, web, "x", 1)
        for need in (-1, 10000, True, False, 10 ** 59):
            self.refuses(BadNumber(need), with_need, web, "a", need)

    def test_both_at_once(self):
        self.refuses(UnknownFolk("A"), with_need, example_web(), "A", -1)


class WithWatch(Case):
    def test_a_new_watch(self):
        web = example_web()
        changed = with_watch(web, "d", "a", 4)
        self.same(changed.folk, web.folk)
        self.same(changed.watches, (
            ("b", "a", 1), ("d", "a", 4), ("a", "b", 1), ("a", "c", 1), ("b", "c", 1), ("c", "d", 2),
        ))
        self.same(with_watch(web, "d", "a", 9999).weight("d", "a"), 9999)

    def test_a_watch_that_is_there(self):
        web = example_web()
        changed = with_watch(web, "b", "c", 8)
        self.same(changed.watches, (("b", "a", 1), ("a", "b", 1), ("a", "c", 1), ("b", "c", 8), ("c", "d", 2)))
        self.assertTrue(with_watch(web, "b", "c", 1) == web)

    def test_weight_0(self):
        web = example_web()
        changed = with_watch(web, "b", "c", 0)
        self.same(changed.watches, (("b", "a", 1), ("a", "b", 1), ("a", "c", 1), ("c", "d", 2)))
        self.assertTrue(with_watch(web, "c", "b", 0) == web)
        self.assertTrue(with_watch(changed, "b", "c", 0) == changed)

    def test_the_twenty_fourth_and_the_twenty_fifth(self):
        web = full_web(24)
        names = web.names
        rest = [pair for pair in itertools.permutations(names, 2) if web.weight(*pair) == 0]
        there = web.watches[0]
        self.assertEqual(len(rest), 6)
        self.refuses(BadCount("watches", 25), with_watch, web, rest[0][0], rest[0][1], 1)
        self.assertTrue(with_watch(web, rest[0][0], rest[0][1], 0) == web)
        self.same(with_watch(web, there[0], there[1], 5).weight(there[0], there[1]), 5)
        self.assertEqual(len(with_watch(web, there[0], there[1], 0).watches), 23)
        smaller = full_web(23)
        self.assertEqual(len(with_watch(smaller, rest[0][0], rest[0][1], 1).watches), 24)

    def test_refused(self):
        web = example_web()
        self.refuses(UnknownFolk("x"), with_watch, web, "x", "a", 1)
        self.refuses(UnknownFolk("x"), with_watch, web, "a", "x", 1)
        for weight in (-1, 10000, True, False, 10 ** 59):
            self.refuses(BadNumber(weight), with_watch, web, "a", "b", weight)
        self.refuses(SelfWatch("a"), with_watch, web, "a", "a", 1)
        self.refuses(SelfWatch("a"), with_watch, web, "a", "a", 0)

    def test_several_at_once(self):
        web = example_web()
        self.refuses(UnknownFolk("x"), with_watch, web, "x", "y", -1)
        self.refuses(UnknownFolk("x"), with_watch, web, "x", "x", -1)
        self.refuses(UnknownFolk("y"), with_watch, web, "a", "y", True)
        self.refuses(BadNumber(-1), with_watch, web, "a", "a", -1)
        self.refuses(BadNumber(False), with_watch, web, "a", "a", False)
        full = full_web(24)
        self.refuses(SelfWatch(full.names[0]), with_watch, full, full.names[0], full.names[0], 1)


class WithFolk(Case):
    def test_a_new_member_comes_last(self):
        web = example_web()
        changed = with_folk(web, "aa", 9)
        self.same(changed.folk, web.folk + (("aa", 9),))
        self.same(changed.watches, web.watches)
        self.same(changed.watchers("aa"), ())
        self.same(with_folk(web, "e", 0).need("e"), 0)
        self.same(with_folk(web, "e", 9999).need("e"), 9999)

    def test_the_tenth_and_the_eleventh(self):
        self.assertEqual(len(with_folk(plain_web(9), "new", 1).names), 10)
        self.refuses(BadCount("folk", 11), with_folk, plain_web(10), "new", 1)

    def test_refused(self):
        web = example_web()
        for name in ("", "A", "1", "abcdefghi", "e\n"):
            self.refuses(BadName(name), with_folk, web, name, 1)
        for need in (-1, 10000, True, False):
            self.refuses(BadNumber(need), with_folk, web, "e", need)
        self.refuses(Repeated("b"), with_folk, web, "b", 1)

    def test_several_at_once(self):
        self.refuses(BadName("E"), with_folk, plain_web(10), "E", -1)
        self.refuses(BadNumber(-1), with_folk, plain_web(10), "m", -1)
        self.refuses(BadNumber(True), with_folk, example_web(), "a", True)
        self.refuses(Repeated("m"), with_folk, plain_web(10), "m", 1)


class WithoutFolk(Case):
    def test_the_watches_go_along(self):
        web = example_web()
        changed = without_folk(web, "c")
        self.same(changed.folk, (("a", 1), ("b", 1), ("d", 3)))
        self.same(changed.watches, (("b", "a", 1), ("a", "b", 1)))
        changed = without_folk(web, "a")
        self.same(changed.folk, (("b", 1), ("c", 2), ("d", 3)))
        self.same(changed.watches, (("b", "c", 1), ("c", "d", 2)))

    def test_coming_back_brings_no_watches(self):
        web = with_folk(without_folk(example_web(), "c"), "c", 2)
        self.same(web.names, ("a", "b", "d", "c"))
        self.same(web.watches, (("b", "a", 1), ("a", "b", 1)))

    def test_refused(self):
        self.refuses(UnknownFolk("x"), without_folk, example_web(), "x")
        self.refuses(BadCount("folk", 0), without_folk, Web([("a", 1)]), "a")

    def test_both_at_once(self):
        self.refuses(UnknownFolk("x"), without_folk, Web([("a", 1)]), "x")


class SubWeb(Case):
    def test_names_in_any_order(self):
        web = example_web()
        for order in itertools.permutations(["d", "a", "c"]):
            changed = sub_web(web, list(order))
            self.same(changed.folk, (("a", 1), ("c", 2), ("d", 3)))
            self.same(changed.watches, (("a", "c", 1), ("c", "d", 2)))

    def test_all_and_one(self):
        web = example_web()
        self.assertTrue(sub_web(web, ["d", "c", "b", "a"]) == web)
        self.assertTrue(sub_web(web, ("c",)) == Web([("c", 2)]))

    def test_refused(self):
        web = example_web()
        self.refuses(BadCount("folk", 0), sub_web, web, [])
        self.refuses(BadCount("folk", 0), sub_web, web, ())
        self.refuses(UnknownFolk("x"), sub_web, web, ["a", "x"])
        self.refuses(Repeated("a"), sub_web, web, ["a", "a"])

    def test_several_at_once(self):
        self.refuses(UnknownFolk("x"), sub_web, example_web(), ["a", "x", "a"])
        self.refuses(Repeated("a"), sub_web, example_web(), ["a", "a", "x"])

    def test_against_leaving_out_one_by_one(self):
        for web in small_webs():
            for names in subsets(web.names)[1:]:
                expected = web
                for name in web.names:
                    if name not in names:
                        expected = without_folk(expected, name)
                self.assertTrue(sub_web(web, names[::-1]) == expected)


class TheOldWebStays(Case):
    def test_all_changes(self):
        web = example_web()
        names = ["d", "a"]
        for _ in range(2):
            with_need(web, "a", 9)
            with_watch(web, "a", "b", 0)
            with_watch(web, "a", "d", 5)
            with_folk(web, "new", 1)
            without_folk(web, "a")
            sub_web(web, names)
            with self.assertRaises(SelfWatch):
                with_watch(web, "a", "a", 1)
            self.assertTrue(web == example_web())
            self.assertEqual(names, ["d", "a"])

    def test_equal_answers_when_asked_again(self):
        web = example_web()
        before = with_watch(web, "d", "a", 2)
        without_folk(web, "d")
        with_watch(web, "d", "a", 3)
        self.assertTrue(with_watch(web, "d", "a", 2) == before)
        self.assertEqual(names_for(2), ["m", "c"])

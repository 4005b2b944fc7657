"""Points 21 and 22: closures and waking orders, and point 7 for is_waking_order."""

import itertools

from drowsefolk.closing import closure, is_waking_order, waking_order, waking_rounds
from drowsefolk.deeds import may_turn
from drowsefolk.errors import Outside, Repeated, UnknownFolk
from drowsefolk.webs import Web
from tests.helpers import Case, Text, example_web, plain_web, small_webs, subsets
from tests.slow import in_folk_order


def can_wake(web, world, name, within):
    """True if the name is a sleeper of the set who may turn."""
    return name in within and name not in world and may_turn(web, world, name)


def all_waking_orders(web, awake, within):
    """Every row of names that can wake one after the other, also those that stop early."""
    rows = [()]
    for row in rows:
        world = tuple(awake) + row
        rows.extend([row + (name,) for name in web.names if can_wake(web, world, name, within)])
    return rows


class Closure(Case):
    def test_the_example(self):
        self.same(closure(example_web(), ["b"]), ("a", "b", "c"))

    def test_nobody_some_and_all_awake(self):
        web = example_web()
        self.same(closure(web, []), ())
        self.same(closure(web, ["c"]), ("c",))
        self.same(closure(web, ["d", "a"]), ("a", "b", "c", "d"))
        self.same(closure(web, list("dcba")), ("a", "b", "c", "d"))
        self.same(closure(plain_web(10), []), plain_web(10).names)

    def test_one_who_is_awake_stays_awake(self):
        self.same(closure(example_web(), ["d"]), ("d",))

    def test_within(self):
        web = example_web()
        self.same(closure(web, ["b"], within=["c", "b"]), ("b",))
        self.same(closure(web, ["b"], within=("a", "b")), ("a", "b"))
        self.same(closure(web, ["b"], within=["c", "a", "b"]), ("a", "b", "c"))
        self.same(closure(web, ["b"], within=list("dcba")), ("a", "b", "c"))

    def test_an_empty_within_is_not_none(self):
        web = plain_web(2)
        self.same(closure(web, [], within=[]), ())
        self.same(closure(web, [], within=()), ())
        self.same(closure(web, [], within=None), ("m", "c"))
        self.refuses(Outside("c"), closure, web, ["c"], within=[])
        self.same(closure(web, ["c"], within=None), ("m", "c"))

    def test_against_all_orders_of_waking(self):
        for web in small_webs():
            for within in subsets(web.names):
                for awake in subsets(within):
                    rows = all_waking_orders(web, awake, within)
                    most = max(len(row) for row in rows)
                    ends = {in_folk_order(web, awake + row) for row in rows if len(row) == most}
                    self.assertEqual(len(ends), 1)
                    self.same(closure(web, awake[::-1], within=within[::-1]), ends.pop())


class WakingOrder(Case):
    def test_the_example(self):
        self.same(waking_order(example_web(), ["b"]), ("a", "c"))

    def test_nobody_to_wake(self):
        web = example_web()
        self.same(waking_order(web, []), ())
        self.same(waking_order(web, list("abcd")), ())
        self.same(waking_order(web, ["b"], within=["b"]), ())
        self.same(waking_order(plain_web(2), [], within=[]), ())

    def test_the_search_begins_anew_at_the_first(self):
        web = Web([("a", 1), ("b", 1), ("c", 0), ("d", 0)], [("b", "a", 1), ("c", "b", 1)])
        self.same(waking_order(web, []), ("c", "b", "a", "d"))
        self.same(waking_order(web, ["d"]), ("c", "b", "a"))
        self.same(waking_order(web, [], within=["d", "c", "a"]), ("c", "d"))

    def test_step_by_step(self):
        for web in small_webs():
            for within in subsets(web.names):
                for awake in subsets(within):
                    expected = ()
                    while True:
                        world = awake + expected
                        ready = [name for name in web.names if can_wake(web, world, name, within)]
                        if not ready:
                            break
                        expected = expected + (ready[0],)
                    self.same(waking_order(web, awake, within=within), expected)
                    if within == web.names:
                        self.same(waking_order(web, awake), expected)


class WakingRounds(Case):
    def test_ordinary(self):
        web = example_web()
        self.same(waking_rounds(web, ["b"]), [("a",), ("c",)])
        self.same(waking_rounds(plain_web(3), ["c"]), [("m", "x")])
        web = Web([("a", 1), ("b", 1), ("c", 0), ("d", 0)], [("b", "a", 1), ("c", "b", 1)])
        self.same(waking_rounds(web, []), [("c", "d"), ("b",), ("a",)])
        self.same(waking_rounds(web, [], within=["d", "b"]), [("d",)])

    def test_nobody_to_wake(self):
        web = example_web()
        self.same(waking_rounds(web, []), [])
        self.same(waking_rounds(web, list("abcd")), [])
        self.same(waking_rounds(plain_web(2), [], within=[]), [])

    def test_round_by_round(self):
        for web in small_webs():
            for within in subsets(web.names):
                for awake in subsets(within):
                    world = awake
                    expected = []
                    while True:
                        ready = tuple(name for name in web.names if can_wake(web, world, name, within))
                        if not ready:
                            break
                        expected.append(ready)
                        world = world + ready
                    self.same(waking_rounds(web, awake, within=list(within)), expected)

    def test_a_list_that_is_returned_is_new(self):
        web = plain_web(3)
        rounds = waking_rounds(web, [])
        rounds.clear()
        self.same(waking_rounds(web, []), [("m", "c", "x")])


class Refusals(Case):
    CALLS = (closure, waking_order, waking_rounds)

    def test_by_themselves(self):
        web = example_web()
        for call in self.CALLS:
            self.refuses(UnknownFolk("x"), call, web, ["x"])
            self.refuses(Repeated("a"), call, web, ["a", "a"])
            self.refuses(UnknownFolk("x"), call, web, ["a"], within=["a", "x"])
            self.refuses(Repeated("a"), call, web, ["a"], within=["a", "a"])

    def test_outside(self):
        web = Web([("z", 1), ("a", 1), ("m", 1)])
        for call in self.CALLS:
            self.refuses(Outside("z"), call, web, ["a", "z"], within=["m"])
            self.refuses(Outside("a"), call, web, ["m", "a"], within=["z"])
            self.refuses(Outside("m"), call, web, ["m", "a"], within=["a"])
            self.refuses(Outside("m"), call, web, ["m"], within=[])
            self.refuses(Outside("z"), call, web, ["z"], within=["a", "m"])
            self.refuses(Outside("z"), call, web, ["m", "z", "a"], within=["a", "m"])
            self.refuses(Outside("z"), call, Web([("z", 1)]), ["z"], within=[])

    def test_several_at_once(self):
        web = example_web()
        for call in self.CALLS:
            self.refuses(UnknownFolk("x"), call, web, ["x"], within=["y"])
            self.refuses(Repeated("a"), call, web, ["a", "a"], within=["y"])
            self.refuses(UnknownFolk("y"), call, web, ["a"], within=["y"])
            self.refuses(Repeated("b"), call, web, ["a"], within=["b", "b"])

    def test_within_is_passed_by_keyword(self):
        web = example_web()
        for call in self.CALLS:
            with self.assertRaises(TypeError):
                call(web, [], [])
        with self.assertRaises(TypeError):
            is_waking_order(web, [], [], [], [])


class IsWakingOrder(Case):
    def test_right(self):
        web = example_web()
        self.assertIs(is_waking_order(web, ["b"], ["c", "a", "b"], ["a", "c"]), True)
        self.assertIs(is_waking_order(web, ["b"], ["a", "b"], ("a",)), True)
        self.assertIs(is_waking_order(web, ["b"], ["b"], []), True)
        self.assertIs(is_waking_order(web, ["b"], ["b", "a"], ["a"], within=["b", "a"]), True)

    def test_another_order(self):
        web = Web([("a", 0), ("b", 1), ("c", 0)], [("c", "b", 1)])
        self.same(waking_order(web, []), ("a", "c", "b"))
        for paper in (["c", "b", "a"], ["c", "a", "b"], ["a", "c", "b"]):
            self.assertIs(is_waking_order(web, [], ["a", "b", "c"], paper), True)
        self.assertIs(is_waking_order(web, [], ["a", "b", "c"], ["b", "c", "a"]), False)

    def test_wrong(self):
        web = example_web()
        self.assertIs(is_waking_order(web, ["b"], ["a", "b"], ["a", "a"]), False)
        self.assertIs(is_waking_order(web, ["b"], ["b"], ["a", "a"]), False)
        self.assertIs(is_waking_order(web, ["b"], ["a", "b"], ["a", "x"]), False)
        self.assertIs(is_waking_order(web, ["b"], ["b"], [""]), False)
        self.assertIs(is_waking_order(web, ["b"], ["a", "b"], ["b", "a"]), False)
        self.assertIs(is_waking_order(web, ["b"], ["a"], ["a", "b"]), False)
        self.assertIs(is_waking_order(web, ["b"], ["a", "b", "c"], ["c", "a"]), False)
        self.assertIs(is_waking_order(web, ["b"], ["a", "b", "c"], ["a"]), False)
        self.assertIs(is_waking_order(web, ["b"], ["b"], ["a"]), False)
        self.assertIs(is_waking_order(web, ["b"], ["a", "b"], []), False)
        self.assertIs(is_waking_order(web, ["b"], ["a", "b"], ["a"], within=["b"]), False)
        self.assertIs(is_waking_order(web, [], [], [], within=[]), True)
        self.assertIs(is_waking_order(plain_web(1), [], ["m"], ["m"], within=[]), False)
        self.assertIs(is_waking_order(plain_web(1), [], ["m"], ["m"], within=None), True)

    def test_a_very_long_paper(self):
        self.assertIs(is_waking_order(plain_web(1), [], ["m"], ["m"] * 300), False)

    def test_the_target_need_not_be_in_within(self):
        web = example_web()
        self.assertIs(is_waking_order(web, ["b"], ["a", "b", "d"], ["a"], within=["b", "a"]), False)
        self.assertIs(is_waking_order(web, ["b"], ["d"], [], within=["b"]), False)

    def test_all_rows(self):
        for web in small_webs()[:12]:
            for within in subsets(web.names):
                for awake in subsets(within):
                    right = all_waking_orders(web, awake, within)
                    for size in range(3):
                        for row in itertools.product(web.names, repeat=size):
                            for target in subsets(web.names):
                                expected = row in right and in_folk_order(web, awake + row) == target
                                found = is_waking_order(web, awake, target[::-1], list(row), within=within)
                                self.assertIs(found, expected)

    def test_the_other_arguments_are_refused_before_the_paper(self):
        web = example_web()
        for paper in ([], ["q"], ["a", "a"]):
            self.refuses(UnknownFolk("x"), is_waking_order, web, ["x"], ["y"], paper, within=["z"])
            self.refuses(Repeated("a"), is_waking_order, web, ["a", "a"], ["y"], paper, within=["z"])
            self.refuses(UnknownFolk("y"), is_waking_order, web, ["a"], ["y"], paper, within=["z"])
            self.refuses(Repeated("b"), is_waking_order, web, ["a"], ["b", "b"], paper, within=["z"])
            self.refuses(UnknownFolk("z"), is_waking_order, web, ["a"], ["b"], paper, within=["z"])
            self.refuses(Repeated("b"), is_waking_order, web, ["a"], ["b"], paper, within=["b", "b"])
            self.refuses(Outside("a"), is_waking_order, web, ["c", "a"], ["b"], paper, within=["b", "d"])
            self.refuses(Outside("c"), is_waking_order, web, ["c", "b"], ["b"], paper, within=["b", "d"])


class Copies(Case):
    def test_what_is_passed_stays(self):
        web = example_web()
        awake, within, target, paper = ["b"], ["c", "b", "a"], ["c", "b", "a"], ["a", "c"]
        before = (closure(web, awake), waking_order(web, awake, within=within), waking_rounds(web, awake))
        self.assertIs(is_waking_order(web, awake, target, paper, within=within), True)
        closure(web, [], within=[])
        after = (closure(web, awake), waking_order(web, awake, within=within), waking_rounds(web, awake))
        self.same(after, before)
        self.assertEqual(
            (awake, within, target, paper), (["b"], ["c", "b", "a"], ["c", "b", "a"], ["a", "c"]),
        )
        self.assertTrue(web == example_web())

    def test_names_told_are_of_pythons_own_kind(self):
        self.same(closure(plain_web(1), [Text("m")]), ("m",))
        self.same(waking_order(plain_web(2), [Text("c")], within=[Text("m"), Text("c")]), ("m",))

"""Points 17 and 18: who may turn, and deeds; and of point 19 what replay and walk do."""

from drowsefolk.deeds import may_turn, missing, replay, turn, turners, walk, weight_on
from drowsefolk.errors import BadCount, Repeated, TooLight, UnknownFolk
from drowsefolk.webs import Web
from tests.helpers import Case, Text, example_web, plain_web, small_webs, subsets


def slow_weight(web, awake, name):
    """The weight on the name, reckoned from the watches as they are told."""
    return sum(weight for watcher, watched, weight in web.watches if watched == name and watcher in awake)


class Weights(Case):
    def test_nobody_some_and_all_awake(self):
        web = example_web()
        self.same([weight_on(web, [], name) for name in "abcd"], [0, 0, 0, 0])
        self.same([weight_on(web, ["b"], name) for name in "abcd"], [1, 0, 1, 0])
        self.same([weight_on(web, ["b", "a"], name) for name in "abcd"], [1, 1, 2, 0])
        self.same([weight_on(web, list("dcba"), name) for name in "abcd"], [1, 1, 2, 2])

    def test_missing(self):
        web = example_web()
        self.same([missing(web, [], name) for name in "abcd"], [1, 1, 2, 3])
        self.same([missing(web, ["b"], name) for name in "abcd"], [0, 1, 1, 3])
        self.same([missing(web, list("abcd"), name) for name in "abcd"], [0, 0, 0, 1])

    def test_missing_is_never_below_0(self):
        web = Web([("a", 1), ("b", 0)], [("b", "a", 9999)])
        self.same(missing(web, ["b"], "a"), 0)
        self.same(missing(web, [], "b"), 0)

    def test_being_awake_does_not_count_for_oneself(self):
        web = example_web()
        for names in subsets("abcd"):
            for name in "abcd":
                others = [one for one in names if one != name]
                self.same(weight_on(web, names, name), weight_on(web, others, name))
                self.same(missing(web, names, name), missing(web, others, name))
                self.same(may_turn(web, names, name), may_turn(web, others, name))

    def test_need_0_may_always_turn(self):
        web = Web([("a", 0), ("b", 1)], [("b", "a", 5)])
        for names in subsets("ab"):
            self.assertIs(may_turn(web, names, "a"), True)

    def test_one_who_is_awake_and_may_not_turn(self):
        web = example_web()
        self.assertIs(may_turn(web, ["d"], "d"), False)
        self.refuses(TooLight("d", 3, 1), turn, web, ["d"], "d")
        self.refuses(TooLight("d", 1, 1), turn, web, ["d", "c"], "d")

    def test_turners_asleep_and_awake(self):
        web = example_web()
        self.same(turners(web, []), ())
        self.same(turners(web, ["a"]), ("b",))
        self.same(turners(web, ["b", "a"]), ("a", "b", "c"))
        self.same(turners(web, list("dcba")), ("a", "b", "c"))
        self.same(turners(plain_web(3), []), ("m", "c", "x"))
        self.same(turners(plain_web(3), ["x"]), ("m", "c", "x"))

    def test_against_the_watches(self):
        for web in small_webs():
            for names in subsets(web.names):
                may = []
                for name in web.names:
                    weight = slow_weight(web, names, name)
                    lack = max(0, web.need(name) - weight)
                    self.same(weight_on(web, names[::-1], name), weight)
                    self.same(missing(web, list(names), name), lack)
                    self.same(may_turn(web, names, name), lack == 0)
                    if lack == 0:
                        may.append(name)
                self.same(turners(web, names), tuple(may))

    def test_refused(self):
        web = example_web()
        for call in (weight_on, missing, may_turn, turn):
            self.refuses(UnknownFolk("x"), call, web, ["a"], "x")
            self.refuses(UnknownFolk(""), call, web, ["a", "b"], "")
            self.refuses(UnknownFolk("x"), call, web, ["x"], "a")
            self.refuses(Repeated("a"), call, web, ["a", "a"], "a")
        self.refuses(UnknownFolk("x"), turners, web, ["a", "x"])
        self.refuses(Repeated("b"), turners, web, ["b", "b"])

    def test_both_at_once(self):
        web = example_web()
        for call in (weight_on, missing, may_turn, turn):
            self.refuses(UnknownFolk("x"), call, web, ["x", "x"], "y")
            self.refuses(Repeated("a"), call, web, ["a", "a"], "y")
        self.refuses(Repeated("a"), turn, web, ["a", "a"], "d")
        self.refuses(UnknownFolk("y"), turn, web, [], "y")
        self.refuses(Repeated("a"), turners, web, ["a", "a", "x"])


class Turning(Case):
    def test_the_examples(self):
        self.same(turn(example_web(), ["a"], "b"), ("a", "b"))
        self.refuses(TooLight("c", 1, 1), turn, example_web(), ["a"], "c")

    def test_waking_and_falling_asleep(self):
        web = example_web()
        self.same(turn(web, ["b"], "a"), ("a", "b"))
        self.same(turn(web, ["b", "a"], "a"), ("b",))
        self.same(turn(web, ["b", "a"], "c"), ("a", "b", "c"))

    def test_the_same_deed_again_takes_it_back(self):
        for web in small_webs():
            for names in subsets(web.names):
                for name in turners(web, names):
                    behind = turn(web, names, name)
                    self.assertEqual(set(behind) ^ set(names), {name})
                    self.same(turn(web, behind, name), names)

    def test_refused_for_all_who_may_not(self):
        for web in small_webs():
            for names in subsets(web.names):
                for name in web.names:
                    if name not in turners(web, names):
                        self.refuses(TooLight(name, missing(web, names, name), 1), turn, web, names, name)

    def test_the_name_told_is_of_pythons_own_kind(self):
        self.same(turn(plain_web(2), [], Text("c")), ("c",))


class Replaying(Case):
    def test_ordinary(self):
        web = example_web()
        self.same(replay(web, ["b"], ["a", "c", "b"]), ("a", "c"))
        self.same(replay(web, ("a",), ("b", "c", "b")), ("a", "c"))

    def test_no_deeds(self):
        self.same(replay(example_web(), ["d", "a"], []), ("a", "d"))
        self.same(replay(example_web(), [], ()), ())

    def test_200_and_201(self):
        web = plain_web(2)
        self.same(replay(web, [], ["c"] * 199 + ["m"]), ("m", "c"))
        self.same(replay(web, [], ["c"] * 200), ())
        self.refuses(BadCount("deeds", 201), replay, web, [], ["c"] * 201)
        self.refuses(BadCount("deeds", 300), replay, web, [], ["x"] * 300)

    def test_the_first_deed_that_is_not_allowed(self):
        web = example_web()
        self.refuses(TooLight("c", 2, 1), replay, web, [], ["c"])
        self.refuses(TooLight("c", 1, 2), replay, web, ["a", "b"], ["b", "c", "d"])
        self.refuses(TooLight("d", 1, 4), replay, web, ["b"], ["a", "c", "b", "d", "d"])

    def test_an_unknown_name_before_a_deed_that_is_not_allowed(self):
        web = example_web()
        self.refuses(UnknownFolk("x"), replay, web, [], ["c", "x", "y"])
        self.refuses(UnknownFolk("x"), replay, web, ["b"], ["d", "a", "x"])

    def test_several_at_once(self):
        web = example_web()
        self.refuses(UnknownFolk("y"), replay, web, ["y"], ["x"] * 201)
        self.refuses(Repeated("a"), replay, web, ["a", "a"], ["x"])
        self.refuses(BadCount("deeds", 201), replay, web, [], ["x"] * 201)

    def test_step_by_step(self):
        for web in small_webs():
            for names in subsets(web.names):
                world = names
                deeds = []
                for step in range(6):
                    may = turners(web, world)
                    if not may:
                        break
                    name = may[step % len(may)]
                    deeds.append(name)
                    world = turn(web, world, name)
                    self.same(replay(web, names, deeds), world)

    def test_what_is_passed_stays(self):
        web = example_web()
        awake = ["b"]
        deeds = ["a", "c", "b"]
        before = replay(web, awake, deeds)
        replay(web, ["a"], ["b"])
        self.same(replay(web, awake, deeds), before)
        self.assertEqual((awake, deeds), (["b"], ["a", "c", "b"]))
        self.assertTrue(web == example_web())


class Walking(Case):
    def test_ordinary(self):
        web = example_web()
        self.same(list(walk(web, ["b"], ["a", "c", "b"])), [("b",), ("a", "b"), ("a", "b", "c"), ("a", "c")])
        self.same(list(walk(web, ["d", "a"], [])), [("a", "d")])
        self.assertEqual(len(list(walk(plain_web(1), [], ["m"] * 200))), 201)

    def test_the_arguments_are_refused_when_iteration_begins(self):
        web = example_web()
        for expected, awake, deeds in (
            (UnknownFolk("x"), ["x"], ["y"]),
            (Repeated("a"), ["a", "a"], ["y"]),
            (BadCount("deeds", 201), [], ["y"] * 201),
            (UnknownFolk("y"), [], ["c", "y"]),
        ):
            steps = walk(web, awake, deeds)
            self.refuses(expected, next, steps)

    def test_a_deed_is_refused_when_it_is_reached(self):
        web = example_web()
        steps = walk(web, ["b"], ["a", "d", "c"])
        self.same(next(steps), ("b",))
        self.same(next(steps), ("a", "b"))
        self.refuses(TooLight("d", 3, 2), next, steps)

    def test_a_deed_that_is_not_reached_is_not_refused(self):
        steps = walk(example_web(), ["b"], ["a", "d"])
        self.same([next(steps), next(steps)], [("b",), ("a", "b")])
        steps.close()

    def test_it_is_a_generator(self):
        steps = walk(example_web(), ["b"], ["a"])
        self.assertIs(iter(steps), steps)
        self.same(next(steps), ("b",))
        self.same(next(steps), ("a", "b"))
        with self.assertRaises(StopIteration):
            next(steps)

    def test_two_walks_at_once(self):
        web = example_web()
        both = list(zip(walk(web, ["b"], ["a", "c"]), walk(web, ["a"], ["b", "c"])))
        self.same(both, [(("b",), ("a",)), (("a", "b"), ("a", "b")), (("a", "b", "c"), ("a", "b", "c"))])

"""Points 19 and 20: histories, and point 7 for is_history."""

import itertools

from drowsefolk.deeds import replay, turners
from drowsefolk.errors import (
    BadCount, BadNumber, NotJoined, OtherWeb, Repeated, TooLight, UnknownFolk,
)
from drowsefolk.histories import History, is_history, reduced, shortened
from drowsefolk.webs import Web, with_need
from tests.helpers import Case, Text, example_web, plain_web, small_webs, subsets


def long_histories(web, awake, length):
    """Every history of exactly so many deeds from this world."""
    rows = [()]
    for _ in range(length):
        rows = [row + (name,) for row in rows for name in turners(web, replay(web, awake, row))]
    return [History(web, awake, row) for row in rows]


def some_histories():
    """Histories of small webs, with many worlds that come again."""
    found = []
    for web in small_webs()[:16]:
        for awake in subsets(web.names)[:5]:
            for length in (0, 1, 3, 4):
                found.extend(long_histories(web, awake, length)[:60])
    return found


class Building(Case):
    def test_ordinary(self):
        web = example_web()
        history = History(web, ["b"], ["a", "c", "b"])
        self.assertTrue(history.web == web)
        self.same(history.first_world, ("b",))
        self.same(history.last_world, ("a", "c"))
        self.same(history.deeds, ("a", "c", "b"))

    def test_no_deeds(self):
        history = History(example_web(), ["d", "a"], [])
        self.same(history.first_world, ("a", "d"))
        self.same(history.last_world, ("a", "d"))
        self.same(history.deeds, ())
        self.same(history.worlds(), [("a", "d")])
        self.same(len(history), 0)

    def test_200_and_201_deeds(self):
        web = plain_web(1)
        history = History(web, [], ["m"] * 200)
        self.same(len(history), 200)
        self.same(history.last_world, ())
        self.assertEqual(len(history.worlds()), 201)
        self.refuses(BadCount("deeds", 201), History, web, [], ["m"] * 201)

    def test_refused(self):
        web = example_web()
        self.refuses(UnknownFolk("x"), History, web, ["x"], [])
        self.refuses(Repeated("a"), History, web, ["a", "a"], [])
        self.refuses(UnknownFolk("x"), History, web, [], ["x"])
        self.refuses(TooLight("c", 2, 1), History, web, [], ["c"])
        self.refuses(TooLight("d", 1, 3), History, web, ["b"], ["a", "c", "d", "d"])

    def test_several_at_once(self):
        web = example_web()
        self.refuses(Repeated("a"), History, web, ["a", "a"], ["x"] * 201)
        self.refuses(BadCount("deeds", 201), History, web, [], ["x"] * 201)
        self.refuses(UnknownFolk("x"), History, web, [], ["c", "x"])

    def test_kinds_made_from_pythons_own_do_not_stay(self):
        history = History(plain_web(2), [Text("c")], [Text("m")])
        self.same(history.deeds, ("m",))
        self.same(history.worlds(), [("c",), ("m", "c")])


class Asking(Case):
    def test_worlds(self):
        history = History(example_web(), ["b"], ["a", "c", "c", "b"])
        self.same(history.worlds(), [("b",), ("a", "b"), ("a", "b", "c"), ("a", "b"), ("a",)])

    def test_at(self):
        history = History(example_web(), ["b"], ["a", "c", "b"])
        self.same([history.at(place) for place in range(4)], history.worlds())
        for place in (-1, 4, True, False, 10 ** 59):
            self.refuses(BadNumber(place), history.at, place)
        self.same(History(example_web(), ["b"], []).at(0), ("b",))

    def test_turned(self):
        history = History(example_web(), ["b"], ["a", "c", "c", "b"])
        self.same([history.turned(name) for name in "abcd"], [1, 1, 2, 0])
        for name in ("x", "", "A"):
            self.refuses(UnknownFolk(name), history.turned, name)

    def test_cut(self):
        history = History(example_web(), ["b"], ["a", "c", "b", "b"])
        for low in range(5):
            for high in range(low, 5):
                part = history.cut(low, high)
                self.same(part.deeds, history.deeds[low:high])
                self.same(part.worlds(), history.worlds()[low:high + 1])
                self.same(part.first_world, history.at(low))
                self.same(part.last_world, history.at(high))
                self.assertTrue(part.web == history.web)
        self.assertTrue(history.cut(0, 4) == history)
        self.same(len(history.cut(4, 4)), 0)
        self.same(len(history.cut(0, 0)), 0)

    def test_cut_refused(self):
        history = History(example_web(), ["b"], ["a", "c", "b"])
        for low in (-1, 4, True, False, 10 ** 59):
            self.refuses(BadNumber(low), history.cut, low, 3)
        for high in (-1, 4, True, False, 10 ** 59):
            self.refuses(BadNumber(high), history.cut, 0, high)
        self.refuses(BadNumber(1), history.cut, 2, 1)
        self.refuses(BadNumber(-1), history.cut, -1, 9)
        self.refuses(BadNumber(True), history.cut, True, False)
        self.refuses(BadNumber(4), history.cut, 4, 4)

    def test_len(self):
        self.same(len(History(example_web(), ["b"], ["a", "c", "b"])), 3)

    def test_the_properties_cannot_be_set(self):
        history = History(example_web(), ["b"], ["a"])
        for name in ("web", "first_world", "last_world", "deeds"):
            with self.assertRaises(AttributeError):
                setattr(history, name, ())
        self.assertTrue(history == History(example_web(), ["b"], ["a"]))


class Joining(Case):
    def test_ordinary(self):
        web = example_web()
        one = History(web, ["b"], ["a", "c"])
        other = History(example_web(), ["c", "b", "a"], ["b"])
        both = one + other
        self.assertTrue(both == History(web, ["b"], ["a", "c", "b"]))
        self.same(both.worlds(), [("b",), ("a", "b"), ("a", "b", "c"), ("a", "c")])
        self.same(one.deeds, ("a", "c"))
        self.same(other.deeds, ("b",))

    def test_empty_parts(self):
        web = example_web()
        one = History(web, ["b"], ["a", "c"])
        self.assertTrue(one + History(web, ["a", "b", "c"], []) == one)
        self.assertTrue(History(web, ["b"], []) + one == one)

    def test_all_cuts_join_again(self):
        for history in some_histories():
            for place in range(len(history) + 1):
                self.assertTrue(history.cut(0, place) + history.cut(place, len(history)) == history)

    def test_other_webs(self):
        one = History(example_web(), ["b"], ["a"])
        other = History(with_need(example_web(), "d", 4), ["a", "b"], [])
        self.refuses(OtherWeb(), lambda: one + other)

    def test_folk_order_counts(self):
        one = History(Web([("a", 0), ("b", 0)]), [], [])
        other = History(Web([("b", 0), ("a", 0)]), [], [])
        self.refuses(OtherWeb(), lambda: one + other)
        self.assertIs(one == other, False)

    def test_not_joined(self):
        one = History(example_web(), ["b"], ["a"])
        other = History(example_web(), ["d", "a"], [])
        self.refuses(NotJoined(("a", "b"), ("a", "d")), lambda: one + other)
        self.refuses(NotJoined(("a", "d"), ("b",)), lambda: other + one)

    def test_too_long_together(self):
        web = plain_web(1)
        one = History(web, [], ["m"] * 100)
        self.same(len(one + one), 200)
        self.refuses(BadCount("deeds", 202), lambda: one + History(web, [], ["m"] * 102))
        self.refuses(BadCount("deeds", 201), lambda: History(web, [], ["m"] * 200) + History(web, [], ["m"]))
        self.refuses(BadCount("deeds", 300), lambda: one + one + one)

    def test_several_at_once(self):
        web = plain_web(1)
        long = History(web, [], ["m"] * 200)
        other_web = Web([("m", 0), ("c", 0)])
        self.refuses(OtherWeb(), lambda: long + History(other_web, ["m"], ["m"] * 200))
        self.refuses(OtherWeb(), lambda: History(web, [], []) + History(other_web, ["m"], []))
        self.refuses(NotJoined((), ("m",)), lambda: long + History(web, ["m"], ["m"] * 200))


class Backward(Case):
    def test_ordinary(self):
        history = History(example_web(), ["b"], ["a", "c", "b"])
        back = -history
        self.same(back.first_world, ("a", "c"))
        self.same(back.last_world, ("b",))
        self.same(back.deeds, ("b", "c", "a"))
        self.same(back.worlds(), history.worlds()[::-1])

    def test_all(self):
        for history in some_histories():
            back = -history
            self.same(back.worlds(), history.worlds()[::-1])
            self.same(back.deeds, history.deeds[::-1])
            self.assertTrue(-back == history)
            self.same((history + back).last_world, history.first_world)
            self.assertTrue(back.web == history.web)


class Equality(Case):
    def test_equal(self):
        one = History(example_web(), ["a", "b"], ["c", "b"])
        self.assertIs(one == History(example_web(), ("b", "a"), ("c", "b")), True)
        self.assertIs(one != History(example_web(), ("b", "a"), ("c", "b")), False)

    def test_unequal(self):
        web = plain_web(3)
        one = History(web, ["m"], ["c", "x"])
        for other in (
            History(web, [], ["c", "x"]), History(web, ["m"], ["x", "c"]), History(web, ["m"], ["c"]),
            History(web, ["m"], ["c", "x", "x"]), History(with_need(web, "m", 1), ["m"], ["c", "x"]),
        ):
            self.assertIs(one == other, False)
            self.assertIs(other == one, False)
            self.assertIs(one != other, True)


class Copies(Case):
    def test_a_history_stays_as_it_was(self):
        awake = ["b"]
        deeds = ["a", "c", "b"]
        history = History(example_web(), awake, deeds)
        self.assertEqual((awake, deeds), (["b"], ["a", "c", "b"]))
        awake.append("d")
        deeds[0] = "d"
        deeds.clear()
        worlds = history.worlds()
        worlds[0] = ("d",)
        worlds.clear()
        self.same(history.worlds(), [("b",), ("a", "b"), ("a", "b", "c"), ("a", "c")])
        self.same(history.deeds, ("a", "c", "b"))
        self.same(history.first_world, ("b",))

    def test_equal_answers_when_asked_again(self):
        history = History(example_web(), ["b"], ["a", "c", "c", "b"])
        before = (history.worlds(), history.deeds, len(history), reduced(history).deeds, shortened(history).deeds)
        history.cut(1, 2)
        -history
        history + -history
        with self.assertRaises(BadNumber):
            history.at(9)
        after = (history.worlds(), history.deeds, len(history), reduced(history).deeds, shortened(history).deeds)
        self.same(after, before)


def slow_reduced(deeds):
    """Removes the last two neighbouring equal deeds, again and again."""
    deeds = list(deeds)
    for at in range(len(deeds) - 2, -1, -1):
        if deeds[at] == deeds[at + 1]:
            return slow_reduced(deeds[:at] + deeds[at + 2:])
    return tuple(deeds)


class Reduced(Case):
    def test_ordinary(self):
        web = plain_web(3)
        for deeds, expected in (
            ("", ""), ("m", "m"), ("mm", ""), ("mmm", "m"), ("mcm", "mcm"), ("mccm", ""), ("mccx", "mx"),
            ("mcxxcm", ""), ("mcxxcmx", "x"), ("mmccxx", ""), ("cmxxmx", "cx"), ("mcmcm", "mcmcm"),
        ):
            result = reduced(History(web, ["c"], list(deeds)))
            self.same(result.deeds, tuple(expected))
            self.same(result.first_world, ("c",))
            self.assertTrue(result.web == web)

    def test_200_deeds_that_undo_each_other(self):
        history = History(plain_web(3), [], ["m", "c", "x", "c"] * 25 + ["c", "x", "c", "m"] * 25)
        self.same(reduced(history).deeds, ())

    def test_all(self):
        for history in some_histories():
            result = reduced(history)
            self.same(result.deeds, slow_reduced(history.deeds))
            self.same(result.first_world, history.first_world)
            self.same(result.last_world, history.last_world)
            self.assertTrue(result.web == history.web)


def slow_shortened(history):
    """The deeds kept, by keeping a row of (world, deed that led to it)."""
    kept = [(history.first_world, None)]
    for name, world in zip(history.deeds, history.worlds()[1:]):
        if world in [row[0] for row in kept]:
            while kept[-1][0] != world:
                kept.pop()
        else:
            kept.append((world, name))
    return tuple(row[1] for row in kept[1:])


class Shortened(Case):
    def test_ordinary(self):
        web = plain_web(3)
        for deeds, expected in (
            ("", ""), ("m", "m"), ("mm", ""), ("mcm", "mcm"), ("mcmc", ""), ("mcmcx", "x"), ("mcxcm", "mcxcm"),
            ("mccm", ""), ("mxcxc", "m"), ("mcmm", "mc"),
        ):
            result = shortened(History(web, ["c"], list(deeds)))
            self.same(result.deeds, tuple(expected))
            self.same(result.first_world, ("c",))

    def test_a_forgotten_world_comes_again(self):
        web = plain_web(3)
        history = History(web, [], ["m", "c", "c", "m", "m", "c"])
        self.same(shortened(history).deeds, ("m", "c"))
        history = History(web, [], ["m", "c", "m", "c", "m", "c", "x"])
        self.same(shortened(history).deeds, ("m", "c", "x"))
        history = History(web, [], ["c", "m", "m", "x", "m", "x"])
        self.same(shortened(history).deeds, ("c", "x", "m", "x"))

    def test_all(self):
        for history in some_histories():
            result = shortened(history)
            self.same(result.deeds, slow_shortened(history))
            self.same(result.first_world, history.first_world)
            self.same(result.last_world, history.last_world)
            worlds = result.worlds()
            self.assertEqual(len(set(worlds)), len(worlds))
            self.assertTrue(result.web == history.web)

    def test_200_deeds(self):
        history = History(plain_web(2), [], ["m", "c"] * 100)
        self.same(shortened(history).deeds, ())
        self.same(reduced(history).deeds, history.deeds)


class IsHistory(Case):
    def test_right(self):
        web = example_web()
        self.assertIs(is_history(web, ["b"], ["c", "a"], ["a", "c", "b"]), True)
        self.assertIs(is_history(web, ["b"], ["c", "a"], ("a", "c", "b")), True)
        self.assertIs(is_history(web, ["b"], ["b"], []), True)
        self.assertIs(is_history(web, ["b"], ("b",), ["a", "a"]), True)
        self.assertIs(is_history(plain_web(1), [], [], ["m"] * 200), True)

    def test_wrong(self):
        web = example_web()
        self.assertIs(is_history(plain_web(1), [], ["m"], ["m"] * 201), False)
        self.assertIs(is_history(plain_web(1), [], [], ["m"] * 202), False)
        self.assertIs(is_history(web, ["b"], ["a", "b"], ["a", "x"]), False)
        self.assertIs(is_history(web, ["b"], ["b"], [""]), False)
        self.assertIs(is_history(web, ["b"], ["b"], ["a\n"]), False)
        self.assertIs(is_history(web, ["b"], ["b", "c"], ["c"]), False)
        self.assertIs(is_history(web, ["b"], ["a", "b", "c"], ["c", "a"]), False)
        self.assertIs(is_history(web, ["b"], ["a", "b"], ["a", "c"]), False)
        self.assertIs(is_history(web, ["b"], ["a"], []), False)
        self.assertIs(is_history(web, ["b"], [], ["b"]), False)
        self.assertIs(is_history(plain_web(1), [], [], ["x"] * 300), False)

    def test_all_rows_of_three_deeds(self):
        for web in small_webs()[:20]:
            for awake in subsets(web.names)[:4]:
                right = [history.deeds for history in long_histories(web, awake, 3)]
                for row in itertools.product(web.names, repeat=3):
                    for target in subsets(web.names):
                        expected = row in right and replay(web, awake, row) == target
                        self.assertIs(is_history(web, awake, target[::-1], row), expected)

    def test_the_other_arguments_are_refused(self):
        web = example_web()
        self.refuses(UnknownFolk("x"), is_history, web, ["x"], ["a"], [])
        self.refuses(Repeated("a"), is_history, web, ["a", "a"], ["a"], [])
        self.refuses(UnknownFolk("x"), is_history, web, ["a"], ["x"], [])
        self.refuses(Repeated("a"), is_history, web, ["a"], ["a", "a"], [])

    def test_before_the_paper_is_looked_at(self):
        web = example_web()
        for paper in (["q"], ["d"], ["a"] * 201):
            self.refuses(UnknownFolk("x"), is_history, web, ["x"], ["y"], paper)
            self.refuses(Repeated("a"), is_history, web, ["a", "a"], ["y"], paper)
            self.refuses(UnknownFolk("y"), is_history, web, ["a"], ["y"], paper)

    def test_what_is_passed_stays(self):
        awake, target, paper = ["b"], ["c", "a"], ["a", "c", "b"]
        for _ in range(2):
            self.assertIs(is_history(example_web(), awake, target, paper), True)
        self.assertEqual((awake, target, paper), (["b"], ["c", "a"], ["a", "c", "b"]))

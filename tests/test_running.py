"""Points 75 and 76: running orders, and worlds at which two orders part."""

from drowsefolk.errors import BadNumber, Repeated, TooLarge, UnknownFolk
from drowsefolk.histories import History
from drowsefolk.orders import Order
from drowsefolk.running import effects, failing_worlds, order_history, order_of, parting_world, run_order
from drowsefolk.webs import Web, all_worlds
from tests.helpers import Case, Text, example_web, kinds, plain_web, small_webs
from tests.slow import behind, in_folk_order, may, weight_from
from tests.test_orders import LONG, some_orders

EXAMPLE = example_web()


class Stop(Exception):
    """The end of a slow run: the word, the line, the name and the missing weight."""


def blocks_of(lines):
    """The lines as a tree: rows (number of the line, words, rows inside)."""
    rows = []
    number = 0
    while number < len(lines):
        words = lines[number][1].split()
        inside = []
        if words[0] in ("if", "while", "until", "each"):
            depth = 1
            while depth:
                number += 1
                inner = lines[number][1].split()[0]
                depth += (inner in ("if", "while", "until", "each")) - (inner == "end")
                inside.append(lines[number])
            inside.pop()
            rows.append((lines[number - len(inside) - 1][0], words, blocks_of(inside)))
        else:
            rows.append((lines[number][0], words, []))
        number += 1
    return rows


class SlowRun:
    """A run by the words of point 75, block inside block."""

    def __init__(self, web, awake, ticks):
        self.web, self.world, self.ticks, self.deeds = web, in_folk_order(web, awake), ticks, []

    def spend(self, line):
        """Spends a tick."""
        if self.ticks == 0:
            raise Stop("endless", line, None, 0)
        self.ticks -= 1

    def turn(self, line, name):
        """Turns the name, or stops."""
        if not may(self.web, self.world, name):
            lack = dict(self.web.folk)[name] - weight_from(self.web, self.world, name)
            raise Stop("refused", line, name, lack)
        self.world = behind(self.web, self.world, name)
        self.deeds.append(name)

    def holds(self, line, words, member):
        """Tests a condition."""
        self.spend(line)
        if words[1] == "least":
            return len(self.world) >= int(words[2])
        if words[1] == "under":
            return len(self.world) < int(words[2])
        name = member if words[2] == "*" else words[2]
        return {
            "awake": name in self.world, "asleep": name not in self.world,
            "may": may(self.web, self.world, name), "cannot": not may(self.web, self.world, name),
        }[words[1]]

    def rouse(self):
        """Wakes the first sleeper who may turn, again and again."""
        ready = [name for name in self.web.names if name not in self.world and may(self.web, self.world, name)]
        if ready:
            self.turn(0, ready[0])
            self.rouse()

    def leaf(self, line, words, member):
        """Does a line without a block."""
        self.spend(line)
        if words[0] == "rouse":
            self.rouse()
            return
        name = member if words[1] == "*" else words[1]
        if words[0] == "wake" and name in self.world or words[0] == "sleep" and name not in self.world:
            return
        if words[0] == "try" and not may(self.web, self.world, name):
            return
        self.turn(line, name)

    def rows(self, rows, member=None):
        """Does rows one after the other."""
        for line, words, inside in rows:
            if words[0] == "if":
                if self.holds(line, words, member):
                    self.rows(inside, member)
            elif words[0] == "while":
                while self.holds(line, words, member):
                    self.rows(inside, member)
            elif words[0] == "until":
                self.rows(inside, member)
                while not self.holds(line, words, member):
                    self.rows(inside, member)
            elif words[0] == "each":
                for name in self.web.names:
                    self.rows(inside, name)
            else:
                self.leaf(line, words, member)

    def outcome(self, order):
        """The outcome of the whole order."""
        lines = list(enumerate(order.text.split("\n"), start=1)) if order.text else []
        try:
            self.rows(blocks_of(lines))
            told = ("done", 0, None, 0)
        except Stop as stop:
            told = stop.args
        return (told[0], self.world, tuple(self.deeds)) + told[1:]


def slowly(web, awake, order, ticks=90):
    """The outcome by the slow run."""
    return SlowRun(web, awake, ticks).outcome(order)


class RunOrder(Case):
    def runs(self, awake, text, *expected, ticks=90):
        self.same(run_order(EXAMPLE, awake, Order(text), ticks=ticks), expected)

    def test_the_example(self):
        self.runs(["a"], "each\ntry *\nend", "done", ("a", "b", "c"), ("b", "c"), 0, None, 0)

    def test_the_empty_order(self):
        self.runs(["c", "a"], "", "done", ("a", "c"), (), 0, None, 0)
        self.runs([], "# wake q", "done", (), (), 0, None, 0, ticks=1)

    def test_wake(self):
        self.runs(["a"], "wake b", "done", ("a", "b"), ("b",), 0, None, 0)
        self.runs(["a"], "wake a", "done", ("a",), (), 0, None, 0)
        self.runs(["a"], "wake a\nwake c", "refused", ("a",), (), 2, "c", 1)

    def test_sleep(self):
        self.runs(["a", "b"], "sleep b", "done", ("a",), ("b",), 0, None, 0)
        self.runs(["a"], "sleep b", "done", ("a",), (), 0, None, 0)
        self.runs(["a", "b"], "sleep b\nsleep a", "refused", ("a",), ("b",), 2, "a", 1)

    def test_turn(self):
        self.runs(["a"], "turn b\nturn b\nturn b", "done", ("a", "b"), ("b", "b", "b"), 0, None, 0)
        self.runs(["a"], "\n#\nturn b\n\nturn d", "refused", ("a", "b"), ("b",), 2, "d", 3)
        self.runs(["d"], "turn d", "refused", ("d",), (), 1, "d", 3)

    def test_try(self):
        self.runs(["a"], "try a\ntry d\ntry b\ntry c", "done", ("a", "b", "c"), ("b", "c"), 0, None, 0)
        self.runs(["a", "b"], "try b\ntry a", "done", ("a",), ("b",), 0, None, 0)

    def test_rouse(self):
        self.runs(["b"], "rouse", "done", ("a", "b", "c"), ("a", "c"), 0, None, 0)
        self.runs(["b"], "rouse\nrouse", "done", ("a", "b", "c"), ("a", "c"), 0, None, 0)
        self.runs([], "rouse", "done", (), (), 0, None, 0, ticks=1)

    def test_conditions(self):
        for text, told in (
            ("awake a", True), ("awake b", False), ("asleep a", False), ("asleep b", True), ("may b", True),
            ("may a", False), ("may d", False), ("cannot b", False), ("cannot a", True), ("least 0", True),
            ("least 1", True), ("least 2", False), ("least 10", False), ("under 0", False), ("under 1", False),
            ("under 2", True), ("under 10", True),
        ):
            deeds = ("b",) if told else ()
            world = ("a", "b") if told else ("a",)
            self.runs(["a"], f"if {text}\nturn b\nend", "done", world, deeds, 0, None, 0)

    def test_if(self):
        self.runs(["a"], "if awake b\nturn d\nend\nturn b", "done", ("a", "b"), ("b",), 0, None, 0)
        self.runs(["a"], "if awake a\nturn b\nturn d\nend", "refused", ("a", "b"), ("b",), 3, "d", 3)

    def test_while(self):
        self.runs(["a"], "while asleep c\ntry b\ntry c\nend", "done", ("a", "b", "c"), ("b", "c"), 0, None, 0)
        self.runs(["a"], "while asleep a\nturn d\nend", "done", ("a",), (), 0, None, 0)
        # Tested at the opening line, behind the last tick.
        self.runs(["a"], "while awake a\ntry a\nend", "endless", ("a",), (), 1, None, 0, ticks=10)
        self.runs(["a"], "while awake a\ntry a\nend", "endless", ("a",), (), 2, None, 0, ticks=11)

    def test_until(self):
        self.runs(["a"], "until awake c\ntry b\ntry c\nend", "done", ("a", "b", "c"), ("b", "c"), 0, None, 0)
        # The lines inside are done before the first test.
        self.runs(["a"], "until awake a\nturn b\nend", "done", ("a", "b"), ("b",), 0, None, 0)
        self.runs(["a"], "rouse\nuntil awake d\ntry d\nend", "endless", ("a", "b", "c"), ("b", "c"), 2, None, 0)
        self.runs(
            ["a"], "rouse\nuntil awake d\ntry d\nend", "endless", ("a", "b", "c"), ("b", "c"), 3, None, 0, ticks=89,
        )
        self.runs(
            ["a"], "rouse\nuntil awake d\ntry d\nend", "endless", ("a", "b", "c"), ("b", "c"), 2, None, 0, ticks=2,
        )

    def test_each(self):
        unsorted = Web([("z", 0), ("a", 0), ("m", 9)])
        self.same(
            run_order(unsorted, [], Order("each\ntry *\nend")), ("done", ("z", "a"), ("z", "a"), 0, None, 0)
        )
        self.same(
            run_order(unsorted, ["m"], Order("each\nturn *\nend")), ("refused", ("z", "a", "m"), ("z", "a"), 2, "m", 9)
        )

    def test_nested_each(self):
        web = Web([("z", 0), ("a", 0)])
        self.same(
            run_order(web, [], Order("each\nturn *\neach\nturn *\nend\nturn *\nend")),
            ("done", (), ("z", "z", "a", "z", "a", "z", "a", "a"), 0, None, 0),
        )
        # The sign stands for the member of the innermost each, and behind its end for that of the outer one.
        self.same(
            run_order(web, [], Order("each\nif asleep *\neach\nif awake *\nturn *\nend\nend\nturn *\nend\nend")),
            ("done", ("a",), ("z", "z", "a"), 0, None, 0),
        )

    def test_the_sign_is_told_by_name(self):
        self.runs(["a"], "each\nif asleep *\nturn *\nend\nend", "refused", ("a", "b", "c"), ("b", "c"), 3, "d", 1)

    def test_ticks_spent_exactly_at_the_end(self):
        for text, ticks in (
            ("rouse", 1), ("wake a", 1), ("try d\ntry d", 2), ("each\ntry *\nend", 4),
            ("if awake b\nrouse\nend", 1), ("if awake a\nrouse\nend", 2), ("while awake b\nrouse\nend", 1),
            ("until awake b\nrouse\nend", 2), ("while asleep b\nrouse\nend", 3),
            ("each\nif awake *\ntry *\nend\nend", 5), ("each\neach\ntry *\nend\nend", 16), (LONG, 40),
            ("each\nuntil least 0\ntry *\nend\nend", 8),
        ):
            order = Order(text)
            for more in (ticks, ticks + 1):
                self.assertEqual(run_order(EXAMPLE, ["a"], order, ticks=more)[0], "done", text)
            if ticks > 1:
                self.assertEqual(run_order(EXAMPLE, ["a"], order, ticks=ticks - 1)[0], "endless", text)

    def test_one_tick_short(self):
        self.runs(["a"], "wake b\nwake c", "endless", ("a", "b"), ("b",), 2, None, 0, ticks=1)
        # A line that nobody may do is not refused when no tick is left for it.
        self.runs(["a"], "wake b\nwake d", "endless", ("a", "b"), ("b",), 2, None, 0, ticks=1)
        self.runs(["a"], "wake b\nif awake b\nrouse\nend", "endless", ("a", "b"), ("b",), 2, None, 0, ticks=1)
        self.runs(["a"], "wake b\nif awake b\nrouse\nend", "endless", ("a", "b"), ("b",), 3, None, 0, ticks=2)
        self.runs(["a"], "wake b\nwhile awake b\nrouse\nend", "endless", ("a", "b"), ("b",), 2, None, 0, ticks=1)
        self.runs(["a"], "until asleep b\nwake b\nend", "endless", ("a", "b"), ("b",), 1, None, 0, ticks=1)
        self.runs(["a"], "until asleep b\nwake b\nend", "endless", ("a", "b"), ("b",), 2, None, 0, ticks=2)
        self.runs(["a"], "each\ntry *\nend", "endless", ("a", "b"), ("b",), 2, None, 0, ticks=2)
        # Ends and each cost nothing: these are done with their last tick.
        self.runs(["a"], "each\neach\nif least 9\nrouse\nend\nend\nend", "done", ("a",), (), 0, None, 0, ticks=16)

    def test_lines_are_those_of_the_canonical_text(self):
        self.runs(["a"], "\n#x\n  wake b\n\n\n# y\nwake d", "refused", ("a", "b"), ("b",), 2, "d", 3)

    def test_names_equal_to_words(self):
        web = Web([("wake", 0), ("awake", 1), ("least", 2)], [("wake", "awake", 1)])
        self.same(
            run_order(web, [], Order("wake wake\nif may awake\nwake awake\nend\nif asleep least\nsleep wake\nend")),
            ("done", ("awake",), ("wake", "awake", "wake"), 0, None, 0),
        )

    def test_many_deeds(self):
        web = plain_web(10)
        order = Order("while least 0\nrouse\neach\nsleep *\nend\nend")
        outcome = run_order(web, [], order)
        self.same(outcome[0], "endless")
        self.assertGreater(len(outcome[2]), 100)
        self.assertEqual(len(order_history(web, [], order)), len(outcome[2]))
        self.assertEqual(outcome, slowly(web, [], order))

    def test_against_a_slow_run(self):
        words = set()
        webs = [web for web in small_webs() if {"a", "c"} <= set(web.names)] + [EXAMPLE]
        for at, order in enumerate(some_orders()):
            fitting = [web for web in webs if set(order.names) <= set(web.names)]
            web = fitting[at % len(fitting)]
            worlds = all_worlds(web)
            for ticks in (1, 2 + at % 7, 90):
                awake = worlds[(at * 7 + ticks) % len(worlds)]
                expected = slowly(web, awake, order, ticks)
                self.same(run_order(web, awake, order, ticks=ticks), expected)
                words.add(expected[0])
        self.assertEqual(words, {"done", "refused", "endless"})


class Refused(Case):
    def test_ticks(self):
        order = Order("wake q")
        for ticks in (0, 91, -1, True, False, 10 ** 59):
            self.refuses(BadNumber(ticks), run_order, EXAMPLE, ["a"], order, ticks=ticks)
            self.refuses(BadNumber(ticks), order_history, EXAMPLE, ["a"], order, ticks=ticks)
            self.refuses(BadNumber(ticks), parting_world, plain_web(6), order, order, ticks=ticks)
            self.refuses(BadNumber(ticks), effects, plain_web(6), order, ticks=ticks)
            self.refuses(BadNumber(ticks), failing_worlds, plain_web(6), order, ticks=ticks)
        for ticks in range(1, 91):
            outcome = run_order(EXAMPLE, ["a"], Order("while awake a\nwake a\nend"), ticks=ticks)
            self.same(outcome[:2], ("endless", ("a",)))
        with self.assertRaises(TypeError):
            run_order(EXAMPLE, ["a"], Order(""), 90)

    def test_unknown_names_ahead_of_running(self):
        for text, name in (
            ("wake d\nwake q", "q"), ("if awake d\nwake q\nend\nwake p", "q"), ("turn d\ntry p\ntry q", "p"),
            ("if least 9\nsleep q\nend", "q"), ("while may q\nrouse\nend", "q"),
            ("each\nif asleep least\ntry *\nend\nend", "least"),
        ):
            order = Order(text)
            self.refuses(UnknownFolk(name), run_order, EXAMPLE, ["a"], order)
            self.refuses(UnknownFolk(name), order_history, EXAMPLE, ["a"], order)
            self.refuses(UnknownFolk(name), effects, EXAMPLE, order)
            self.refuses(UnknownFolk(name), failing_worlds, EXAMPLE, order)
            self.refuses(UnknownFolk(name), parting_world, EXAMPLE, order, Order("wake p"))
            self.refuses(UnknownFolk(name), parting_world, EXAMPLE, Order("wake a"), order)

    def test_the_world(self):
        self.refuses(UnknownFolk("x"), run_order, EXAMPLE, ["x", "a", "a"], Order("wake q"), ticks=0)
        self.refuses(Repeated("a"), run_order, EXAMPLE, ["a", "a"], Order("wake q"), ticks=0)
        self.refuses(UnknownFolk("x"), order_history, EXAMPLE, ["x"], Order("wake q"), ticks=0)
        self.refuses(BadNumber(0), run_order, EXAMPLE, ["a"], Order("wake q"), ticks=0)

    def test_limits(self):
        order = Order("wake m")
        for number in (6, 10):
            web = plain_web(number)
            self.refuses(TooLarge("folk", 5), parting_world, web, order, order)
            self.refuses(TooLarge("folk", 5), effects, web, order)
            self.refuses(TooLarge("folk", 5), failing_worlds, web, order)
            self.refuses(UnknownFolk("q"), parting_world, web, order, Order("wake q"))
            self.refuses(UnknownFolk("q"), effects, web, Order("wake q"))
            self.refuses(UnknownFolk("q"), failing_worlds, web, Order("wake q"))
        self.same(len(effects(plain_web(5), order)), 32)
        self.assertIsNone(parting_world(plain_web(5), order, order))
        self.same(failing_worlds(plain_web(5), order), [])
        # Run from one world alone, a web of any size will do.
        self.same(run_order(plain_web(10), [], order)[1], ("m",))


class Histories(Case):
    def test_order_history(self):
        for text in ("each\ntry *\nend", "wake b\nwake d", "while awake a\nturn b\nend", ""):
            outcome = run_order(EXAMPLE, ["a"], Order(text))
            found = order_history(EXAMPLE, ["a"], Order(text))
            self.assertTrue(found == History(EXAMPLE, ["a"], outcome[2]))
            self.same(found.last_world, outcome[1])
        found = order_history(EXAMPLE, ["a"], Order("while awake a\nturn b\nend"), ticks=7)
        self.same(found.deeds, ("b", "b", "b"))

    def test_order_of(self):
        history = History(EXAMPLE, ["a"], ["b", "c", "b"])
        self.same(order_of(history).text, "turn b\nturn c\nturn b")
        self.assertTrue(order_history(EXAMPLE, ["a"], order_of(history)) == history)
        self.assertTrue(order_of(History(EXAMPLE, ["a"], [])) == Order(""))
        self.same(len(order_of(History(EXAMPLE, ["a"], ["b"] * 40))), 40)
        for number in (41, 200):
            self.refuses(TooLarge("deeds", 40), order_of, History(EXAMPLE, ["a"], ["b"] * number))

    def test_the_last_world_behind_the_deeds(self):
        for order in some_orders()[::5]:
            outcome = run_order(EXAMPLE, ["a", "b"], order)
            self.same(History(EXAMPLE, ["a", "b"], outcome[2]).last_world, outcome[1])


class AllWorlds(Case):
    def test_effects(self):
        web = Web([("z", 0), ("a", 1)], [("z", "a", 1)])
        self.same(effects(web, Order("turn a")), [
            ((), "refused", ()), (("z",), "done", ("z", "a")), (("a",), "refused", ("a",)),
            (("z", "a"), "done", ("z",)),
        ])
        self.same(failing_worlds(web, Order("turn a")), [((), "refused"), (("a",), "refused")])
        self.same(effects(web, Order("while awake z\ntry a\nend"), ticks=3), [
            ((), "done", ()), (("z",), "endless", ("z", "a")), (("a",), "done", ("a",)),
            (("z", "a"), "endless", ("z",)),
        ])
        self.same(failing_worlds(web, Order("while awake z\ntry a\nend"), ticks=3), [
            (("z",), "endless"), (("z", "a"), "endless"),
        ])
        self.same(failing_worlds(web, Order("rouse")), [])

    def test_against_slow_runs(self):
        for at, order in enumerate(some_orders()[::7]):
            for ticks in (90, 1 + at % 9):
                runs = [(world, slowly(EXAMPLE, world, order, ticks)) for world in all_worlds(EXAMPLE)]
                self.same(effects(EXAMPLE, order, ticks=ticks), [(world, run[0], run[1]) for world, run in runs])
                self.same(
                    failing_worlds(EXAMPLE, order, ticks=ticks),
                    [(world, run[0]) for world, run in runs if run[0] != "done"],
                )

    def test_lists_that_are_returned_are_new(self):
        order = Order("turn a")
        for call in (effects, failing_worlds):
            before = kinds(call(EXAMPLE, order))
            call(EXAMPLE, order).clear()
            self.assertEqual(kinds(call(EXAMPLE, order)), before)


class Parting(Case):
    def test_ordinary(self):
        web = Web([("z", 0), ("a", 1)], [("z", "a", 1)])
        self.assertIsNone(parting_world(web, Order("rouse"), Order("wake z\nwake a")))
        self.same(parting_world(web, Order("wake a"), Order("try a")), ())
        self.same(parting_world(web, Order("wake z"), Order("try z")), ("z",))

    def test_words_and_last_worlds_alone_count(self):
        web = Web([("z", 0), ("a", 5)])
        # Other deeds, and other lines at which the order ends.
        self.assertIsNone(parting_world(web, Order("turn z"), Order("turn z\nturn z\nturn z")))
        self.assertIsNone(parting_world(web, Order("turn a"), Order("try a\nturn a")))
        # The last worlds are the same, the words are not.
        self.same(parting_world(web, Order("turn a"), Order("try a")), ())
        # The words are the same, the last worlds are not.
        self.same(parting_world(web, Order("sleep z"), Order("")), ("z",))
        # Unlike names and missing weights do not part them.
        three = Web([("z", 4), ("a", 5)])
        self.assertIsNone(parting_world(three, Order("turn z"), Order("turn a")))

    def test_the_ticks_told(self):
        web = Web([("z", 0), ("a", 5)])
        long, short = Order("wake z\nwake z\nwake z"), Order("wake z")
        self.assertIsNone(parting_world(web, long, short))
        self.assertIsNone(parting_world(web, long, short, ticks=3))
        self.same(parting_world(web, long, short, ticks=2), ())

    def test_against_slow_runs(self):
        orders = some_orders()[::29]
        found = 0
        for one in orders:
            for other in orders:
                for ticks in (90, 3):
                    expected = None
                    for world in all_worlds(EXAMPLE):
                        if slowly(EXAMPLE, world, one, ticks)[:2] != slowly(EXAMPLE, world, other, ticks)[:2]:
                            expected = world
                            break
                    self.same(parting_world(EXAMPLE, one, other, ticks=ticks), expected)
                    found += expected is not None
        self.assertGreater(found, 50)

    def test_the_first_order_before_the_second(self):
        self.refuses(UnknownFolk("q"), parting_world, EXAMPLE, Order("try a\nwake q"), Order("wake p"))
        self.refuses(UnknownFolk("p"), parting_world, EXAMPLE, Order("try a"), Order("wake p\nwake q"))


class Kinds(Case):
    def test_names_passed_of_another_kind(self):
        outcome = run_order(EXAMPLE, [Text("a")], Order(Text("each\ntry *\nend")))
        self.same(outcome, ("done", ("a", "b", "c"), ("b", "c"), 0, None, 0))

    def test_nothing_that_is_passed_is_changed(self):
        awake, order = ["c", "a"], Order("rouse")
        first = run_order(EXAMPLE, awake, order)
        self.assertEqual(awake, ["c", "a"])
        effects(EXAMPLE, order)
        parting_world(EXAMPLE, order, Order("wake b"))
        self.same(run_order(EXAMPLE, awake, order), first)
        self.same(order.text, "rouse")

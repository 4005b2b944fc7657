"""Points 62 to 67: diaries, runs, layers, layer papers, possible worlds and shortest runs."""

import itertools

from drowsefolk.diaries import (
    Diary, certain, diary_fits, find_run, first_misfit, fitting_starts, is_layer_paper, is_run, layers, least_deeds,
    possible, shortest_run,
)
from drowsefolk.errors import BadCount, BadNumber, Contrary, Misfit, Repeated, TooLarge, UnknownFolk
from drowsefolk.webs import Web, all_worlds, with_need
from tests.helpers import (
    Case, Number, Row, Text, example_web, grouped_web, kinds, plain_web, small_webs, subsets,
)
from tests.slow import behind, distances_from, in_folk_order, in_world_order, may

# The class of a in the example web is told by a, b and c: six worlds.
TWO = [(1, 2, ["b"], []), (0, None, ["c"], ["a"])]


def example_diary(sightings=TWO):
    """A diary of the example web from the world a."""
    return Diary(example_web(), ["a"], sightings)


def some_sightings(web, seed):
    """Up to four sightings of a web, made by a rule without chance."""
    state, found = seed * 104729 + 7, []
    for _ in range(seed % 5):
        told = []
        for name in web.names:
            state = (state * 1103515245 + 12345) % 2147483648
            told.append(state // 65536 % 4)
        state = (state * 1103515245 + 12345) % 2147483648
        least = state // 65536 % 3
        most = (None, least, least + 1, least + 3)[state // 65536 % 7 % 4]
        up = [name for name, part in zip(web.names, told) if part == 0]
        down = [name for name, part in zip(web.names, told) if part == 1]
        found.append((least, most, up[:1], down[:2]))
    return found


def some_diaries():
    """Diaries of some small webs."""
    found = []
    for at, web in enumerate(small_webs()):
        for seed in range(6):
            worlds = all_worlds(web)
            found.append(Diary(web, worlds[(at + seed * 3) % len(worlds)], some_sightings(web, at * 6 + seed)))
    return found


def fits_picture(world, told_awake, told_asleep):
    """True if the world fits the picture."""
    return set(told_awake) <= set(world) and not set(told_asleep) & set(world)


def next_worlds(web, world):
    """The worlds behind one deed."""
    return [behind(web, world, name) for name in web.names if may(web, world, name)]


def reached_by_search(web, world, least, most):
    """The worlds that come of this one by a number of deeds within the bounds, searched deed by deed."""
    # In a class of so many worlds, each number of deeds beyond this one leads nowhere else than a lesser one.
    last = most if most is not None else least + 2 * len(distances_from(web, world)) + 2
    found, edge = set(), {world}
    for number in range(last + 1):
        if number >= least:
            found |= edge
        edge = {other for one in edge for other in next_worlds(web, one)}
    return found


def layers_by_search(diary):
    """The layers, by the words of point 64."""
    web = diary.web
    rows = [[diary.first_world]]
    for least, most, up, down in diary.sightings:
        found = {
            other for one in rows[-1] for other in reached_by_search(web, one, least, most)
            if fits_picture(other, up, down)
        }
        rows.append(in_world_order(web, found))
        if not found:
            break
    return rows


def runs_by_search(diary):
    """All rows of worlds at the moments of a run, each with the least number of deeds, by a search over all."""
    rows = {(diary.first_world,): 0}
    for least, most, up, down in diary.sightings:
        found = {}
        for row, number in rows.items():
            for other in reached_by_search(diary.web, row[-1], least, most):
                if fits_picture(other, up, down):
                    found[row + (other,)] = number + least_gap(diary.web, row[-1], other, least)
        rows = found
    return rows


def least_gap(web, world, other, least):
    """The fewest deeds between two worlds that are at least so many."""
    number = distances_from(web, world)[other]
    while number < least:
        number += 2
    return number


class Building(Case):
    def test_ordinary(self):
        diary = Diary(example_web(), ["b", "a"], [(1, 2, ["c", "a"], ["d"]), [0, None, [], ()]])
        self.assertTrue(diary.web == example_web())
        self.same(diary.first_world, ("a", "b"))
        self.same(diary.sightings, ((1, 2, ("a", "c"), ("d",)), (0, None, (), ())))
        self.same(len(diary), 2)

    def test_0_to_8_sightings(self):
        for number in range(9):
            diary = example_diary([(0, None, [], [])] * number)
            self.same(len(diary), number)
            self.same(len(diary.sightings), number)
        for number in (9, 12):
            self.refuses(BadCount("sightings", number), example_diary, [(0, None, [], [])] * number)

    def test_bounds(self):
        for least in range(7):
            for most in list(range(least, 7)) + [None]:
                self.same(example_diary([(least, most, [], [])]).sightings, ((least, most, (), ()),))
        for least in (-1, 7, True, False, 10 ** 59):
            self.refuses(BadNumber(least), example_diary, [(least, None, [], [])])
            self.refuses(BadNumber(least), example_diary, [(least, 6, ["x"], [])])
        for least, most in ((0, -1), (0, 7), (3, 2), (6, 5), (1, True), (0, False), (0, True)):
            self.refuses(BadNumber(most), example_diary, [(least, most, ["x"], [])])

    def test_pictures(self):
        for told in (["a", "x"], ["x", "a", "a"]):
            self.refuses(UnknownFolk("x"), example_diary, [(0, 1, told, ["y"])])
            self.refuses(UnknownFolk("x"), example_diary, [(0, 1, ["b"], told)])
        self.refuses(Repeated("a"), example_diary, [(0, 1, ["a", "a"], ["x"])])
        self.refuses(Repeated("a"), example_diary, [(0, 1, ["a"], ["a", "a"])])
        self.refuses(Contrary("b"), example_diary, [(0, 1, ["c", "a", "b"], ["c", "b"])])

    def test_the_class(self):
        self.same(len(Diary(plain_web(6), [], [])), 0)
        self.refuses(TooLarge("class", 64), Diary, plain_web(7), [], [])
        large, awake = grouped_web([5, 7, 2])
        self.refuses(TooLarge("class", 64), Diary, large, awake, [])
        # Ten folk, of whom nobody wakes.
        self.same(Diary(plain_web(10, 1), [], [(0, 0, [], [])]).first_world, ())

    def test_refused_for_several_reasons(self):
        web = plain_web(7)
        nine = [(9, 9, ["q"], ["q"])] * 9
        self.refuses(UnknownFolk("q"), Diary, web, ["q", "m", "m"], nine)
        self.refuses(Repeated("m"), Diary, web, ["m", "m"], nine)
        self.refuses(BadCount("sightings", 9), Diary, web, ["m"], nine)
        self.refuses(BadNumber(7), Diary, web, ["m"], [(7, 6, ["q"], ["q"])])
        self.refuses(BadNumber(True), Diary, web, ["m"], [(True, True, ["q"], ["q"])])
        self.refuses(BadNumber(0), Diary, web, ["m"], [(1, 0, ["q"], ["r"])])
        self.refuses(UnknownFolk("q"), Diary, web, ["m"], [(1, 1, ["m", "q"], ["m", "r"])])
        self.refuses(UnknownFolk("r"), Diary, web, ["m"], [(1, 1, ["m"], ["m", "r"])])
        self.refuses(Contrary("m"), Diary, web, ["m"], [(1, 1, ["m"], ["m"]), (9, 9, [], [])])
        self.refuses(BadNumber(9), Diary, web, ["m"], [(1, 1, ["m"], []), (9, 9, [], [])])

    def test_equality(self):
        one = example_diary()
        self.assertIs(one == example_diary([[1, 2, ("b",), ()], [0, None, ("c",), ("a",)]]), True)
        self.assertIs(one != example_diary(), False)
        for other in (
            example_diary(TWO[:1]), Diary(example_web(), ["b"], TWO), example_diary([(0, 2, ["b"], []), TWO[1]]),
            example_diary([TWO[0], (0, 6, ["c"], ["a"])]), Diary(with_need(example_web(), "d", 4), ["a"], TWO),
        ):
            self.assertIs(one == other, False)
            self.assertIs(other == one, False)
            self.assertIs(one != other, True)

    def test_the_properties_cannot_be_set(self):
        diary = example_diary()
        for name in ("web", "first_world", "sightings"):
            with self.assertRaises(AttributeError):
                setattr(diary, name, ())
        self.assertTrue(diary == example_diary())

    def test_copies(self):
        awake, sightings = ["a"], [[1, 2, ["b"], []], [0, None, ["c"], ["a"]]]
        diary = Diary(example_web(), awake, sightings)
        self.assertEqual((awake, sightings), (["a"], [[1, 2, ["b"], []], [0, None, ["c"], ["a"]]]))
        awake.append("d")
        sightings[0][2].append("d")
        sightings[1][0] = 5
        sightings.clear()
        self.assertTrue(diary == example_diary())

    def test_kinds_made_from_pythons_own_do_not_stay(self):
        row = Row([Number(1), Number(2), Row([Text("b")]), []])
        diary = Diary(example_web(), Row([Text("a")]), Row([row]))
        self.same(diary.first_world, ("a",))
        self.same(diary.sightings, ((1, 2, ("b",), ()),))


class Layers(Case):
    def test_ordinary(self):
        self.same(layers(example_diary()), [
            [("a",)], [("b",), ("a", "b"), ("a", "b", "c")], [("b", "c")],
        ])
        self.same(first_misfit(example_diary()), 0)
        self.assertIs(diary_fits(example_diary()), True)

    def test_without_sightings(self):
        diary = example_diary([])
        self.same(layers(diary), [[("a",)]])
        self.same(first_misfit(diary), 0)
        self.assertIs(diary_fits(diary), True)

    def test_the_first_empty_layer_is_the_last_one_told(self):
        # c cannot be awake behind one deed of a.
        diary = example_diary([(0, 0, ["a"], []), (1, 1, ["c"], []), (0, None, [], [])])
        self.same(layers(diary), [[("a",)], [("a",)], []])
        self.same(first_misfit(diary), 2)
        self.assertIs(diary_fits(diary), False)
        self.same(first_misfit(example_diary([(0, None, ["d"], [])])), 1)

    def test_the_number_of_deeds_counts_by_odd_and_even(self):
        # One deed turns one member, so the number of those who are awake is odd behind an even number of deeds.
        self.same(layers(example_diary([(2, 2, [], [])])), [[("a",)], [("a",), ("b",), ("a", "b", "c")]])
        self.same(layers(example_diary([(2, 3, [], [])]))[1], [
            ("a",), ("b",), ("a", "b"), ("a", "c"), ("b", "c"), ("a", "b", "c"),
        ])

    def test_most_none(self):
        every = [("a",), ("b",), ("a", "b"), ("a", "c"), ("b", "c"), ("a", "b", "c")]
        for least in range(7):
            self.same(layers(example_diary([(least, None, [], [])])), [[("a",)], every])

    def test_a_class_of_one_member(self):
        web = plain_web(2, 1)
        for most in (None, 0, 3):
            self.same(layers(Diary(web, ["m"], [(0, most, ["m"], ["c"])])), [[("m",)], [("m",)]])
            self.same(layers(Diary(web, ["m"], [(0, most, ["c"], [])])), [[("m",)], []])
        for least, most in ((1, None), (1, 6), (6, 6), (2, None)):
            self.same(first_misfit(Diary(web, ["m"], [(0, None, [], []), (least, most, [], [])])), 2)

    def test_a_class_of_two_members(self):
        web = Web([("m", 0), ("c", 1)])
        self.same(layers(Diary(web, [], [(1, None, [], [])])), [[()], [(), ("m",)]])
        self.same(layers(Diary(web, [], [(6, 6, [], [])])), [[()], [()]])
        self.same(layers(Diary(web, [], [(1, 1, [], []), (1, 1, ["m"], [])])), [[()], [("m",)], []])

    def test_against_a_search(self):
        misfits = 0
        for diary in some_diaries():
            expected = layers_by_search(diary)
            self.same(layers(diary), expected)
            place = len(expected) - 1 if not expected[-1] else 0
            self.same(first_misfit(diary), place)
            self.assertIs(diary_fits(diary), place == 0)
            misfits += place > 0
        self.assertGreater(misfits, 30)
        self.assertGreater(len(some_diaries()) - misfits, 60)

    def test_lists_that_are_told_are_new(self):
        diary = example_diary()
        for call in (layers, possible, certain, find_run, shortest_run):
            before = kinds(call(diary))
            found = call(diary)
            if call in (layers, possible):
                found[1].append("more")
            found.clear()
            self.assertEqual(kinds(call(diary)), before)


class Possible(Case):
    def test_ordinary(self):
        diary = example_diary([(1, 1, ["b"], []), (1, 1, ["c"], []), (1, 1, [], ["a"])])
        self.same(possible(diary), [[("a",)], [("a", "b")], [("a", "b", "c")], [("b", "c")]])
        self.same(certain(diary), [
            (("a",), ("b", "c", "d"), ()), (("a", "b"), ("c", "d"), ()), (("a", "b", "c"), ("d",), ()),
            (("b", "c"), ("a", "d"), ()),
        ])

    def test_a_world_of_a_layer_that_leads_to_no_later_one(self):
        # Behind two deeds a, b or a b c can be; c is awake behind no deed more.
        diary = example_diary([(2, 2, [], []), (0, 0, ["c"], [])])
        self.same(layers(diary)[1], [("a",), ("b",), ("a", "b", "c")])
        self.same(possible(diary), [[("a",)], [("a", "b", "c")], [("a", "b", "c")]])

    def test_open(self):
        diary = example_diary([(2, 2, [], [])])
        self.same(certain(diary), [(("a",), ("b", "c", "d"), ()), ((), ("d",), ("a", "b", "c"))])

    def test_without_sightings(self):
        self.same(possible(example_diary([])), [[("a",)]])
        self.same(certain(example_diary([])), [(("a",), ("b", "c", "d"), ())])

    def test_misfit(self):
        diary = example_diary([(0, 0, [], []), (0, None, ["d"], []), (0, 0, ["d"], [])])
        for call in (possible, certain, find_run, shortest_run, least_deeds):
            self.refuses(Misfit(2), call, diary)

    def test_against_all_runs(self):
        for diary in some_diaries():
            runs = runs_by_search(diary)
            if not runs:
                for call in (possible, certain, find_run, shortest_run, least_deeds):
                    self.refuses(Misfit(len(layers_by_search(diary)) - 1), call, diary)
                continue
            expected = [
                in_world_order(diary.web, {row[at] for row in runs}) for at in range(len(diary) + 1)
            ]
            self.same(possible(diary), expected)
            told = []
            for worlds in expected:
                up = in_folk_order(diary.web, [n for n in diary.web.names if all(n in world for world in worlds)])
                down = in_folk_order(diary.web, [n for n in diary.web.names if not any(n in world for world in worlds)])
                told.append((up, down, tuple(n for n in diary.web.names if n not in up + down)))
            self.same(certain(diary), told)


class Runs(Case):
    def test_ordinary(self):
        run = shortest_run(example_diary())
        self.assertIs(type(run), list)
        self.assertTrue(all(type(names) is tuple for names in run))
        self.same(sum(len(names) for names in run), 3)
        self.same(least_deeds(example_diary()), 3)
        self.assertIs(is_run(example_diary(), run), True)
        self.assertIs(is_run(example_diary(), find_run(example_diary())), True)

    def test_without_sightings(self):
        diary = example_diary([])
        self.same(shortest_run(diary), [])
        self.same(find_run(diary), [])
        self.same(least_deeds(diary), 0)
        self.assertIs(is_run(diary, []), True)
        self.assertIs(is_run(diary, [[]]), False)

    def test_deeds_that_only_spend_time(self):
        diary = example_diary([(6, 6, ["a"], ["b", "c"]), (0, 0, [], []), (3, None, ["b"], [])])
        run = shortest_run(diary)
        self.same([len(names) for names in run], [6, 0, 3])
        self.assertIs(is_run(diary, run), True)
        self.same(least_deeds(diary), 9)

    def test_the_shortest_run_may_begin_with_the_longer_gap(self):
        # To see b c at the end, it is shorter to go on from a b c than from a.
        diary = example_diary([(0, 2, ["a"], []), (0, None, ["b", "c"], ["a"])])
        self.same(least_deeds(diary), 3)
        diary = example_diary([(0, 2, ["a"], []), (1, 1, ["b", "c"], ["a"])])
        self.same(least_deeds(diary), 3)
        self.same([len(names) for names in shortest_run(diary)], [2, 1])

    def test_against_all_runs(self):
        count = 0
        for diary in some_diaries():
            runs = runs_by_search(diary)
            if runs:
                self.same(least_deeds(diary), min(runs.values()))
                for run in (shortest_run(diary), find_run(diary)):
                    self.assertIs(type(run), list)
                    self.assertEqual(len(run), len(diary))
                    self.assertTrue(all(type(names) is tuple for names in run))
                    self.assertIs(is_run(diary, run), True)
                self.assertEqual(sum(len(names) for names in shortest_run(diary)), min(runs.values()))
                count += 1
        self.assertGreater(count, 60)

    def test_eight_sightings_in_a_class_of_64(self):
        web = plain_web(6)
        names = list(web.names)
        sightings = [(at % 3, None, names[at % 6:at % 6 + 2], names[:at % 6][:1]) for at in range(8)]
        diary = Diary(web, [], sightings)
        self.assertIs(is_run(diary, shortest_run(diary)), True)
        self.assertEqual(len(possible(diary)), 9)


class IsRun(Case):
    def test_ordinary(self):
        diary = example_diary()
        self.assertIs(is_run(diary, [["b"], ["c", "a"]]), True)
        self.assertIs(is_run(diary, (("b",), ("c", "a"))), True)
        self.assertIs(is_run(diary, [["b", "c"], ["a"]]), True)
        self.assertIs(is_run(diary, [["b"], ["c", "c", "c", "a"]]), True)

    def test_too_few_or_too_many_lists(self):
        diary = example_diary()
        for paper in ([], [["b"]], [["b"], ["c", "a"], []], [["b"], [], ["c", "a"]], ()):
            self.assertIs(is_run(diary, paper), False)

    def test_a_deed_that_is_not_allowed(self):
        diary = example_diary()
        for paper in ([["b"], ["d", "a"]], [["c"], ["b"]], [["b"], ["a", "c"]], [["b"], ["c", "a", "a", "d"]]):
            self.assertIs(is_run(diary, paper), False)

    def test_unknown_names(self):
        diary = example_diary([(0, None, [], []), (0, None, [], [])])
        self.assertIs(is_run(diary, [["b"], ["c"]]), True)
        for name in ("x", "", "B", "b "):
            self.assertIs(is_run(diary, [["b", name], ["c"]]), False)
            self.assertIs(is_run(diary, [["b"], [name]]), False)

    def test_numbers_of_deeds_out_of_the_bounds(self):
        diary = example_diary([(2, 4, [], [])])
        for number in range(7):
            self.assertIs(is_run(diary, [["b"] * number]), 2 <= number <= 4)
        diary = example_diary([(2, None, [], [])])
        for number in range(9):
            self.assertIs(is_run(diary, [["b"] * number]), number >= 2)
        self.assertIs(is_run(example_diary([(0, 0, [], [])]), [[]]), True)
        self.assertIs(is_run(example_diary([(0, 0, [], [])]), [["b"]]), False)

    def test_a_picture_that_does_not_fit(self):
        self.assertIs(is_run(example_diary([(0, None, ["b"], [])]), [[]]), False)
        self.assertIs(is_run(example_diary([(0, None, [], ["a"])]), [[]]), False)
        self.assertIs(is_run(example_diary([(0, None, [], ["a"])]), [["b", "a"]]), True)
        # Only the world at the sighting counts, not those between.
        self.assertIs(is_run(example_diary([(0, None, [], ["b"])]), [["b", "c", "c", "b"]]), True)

    def test_more_than_200_names(self):
        diary = example_diary([(0, None, [], [])])
        for number in (200, 201, 999):
            self.assertIs(is_run(diary, [["b"] * number]), True)
        self.assertIs(is_run(diary, [["b"] * 201 + ["d"]]), False)
        self.assertIs(is_run(diary, [["b"] * 202 + ["c"]]), False)
        self.assertIs(is_run(diary, [["b"] * 201 + ["c"]]), True)

    def test_all_short_papers(self):
        web = Web([("m", 0), ("c", 1)], [("m", "c", 1)])
        diary = Diary(web, [], [(0, 1, [], ["c"]), (1, 2, ["m"], [])])
        rows = [row for number in range(4) for row in itertools.product("mc", repeat=number)]
        for one, other in itertools.product(rows, rows):
            world, right = (), True
            for names, (least, most, up, down) in zip((one, other), diary.sightings):
                right = right and least <= len(names) <= most
                for name in names:
                    right = right and may(web, world, name)
                    world = behind(web, world, name)
                right = right and fits_picture(world, up, down)
            self.assertIs(is_run(diary, [list(one), list(other)]), right)


def misfit_diary():
    """A diary whose first misfit is moment 2."""
    return example_diary([(0, 1, [], ["c"]), (1, 1, ["c"], ["b"]), (0, None, [], [])])


class LayerPapers(Case):
    def test_ordinary(self):
        diary = misfit_diary()
        self.same(layers(diary), [[("a",)], [("a",), ("a", "b")], []])
        self.assertIs(is_layer_paper(diary, 2, [[["a"]], [["a"], ["b", "a"]], []]), True)
        self.assertIs(is_layer_paper(diary, 2, layers(diary)), True)
        self.assertIs(is_layer_paper(diary, 2, ((("a",),), (("b", "a"), ("a",)), ())), True)

    def test_more_worlds_than_needed(self):
        diary = misfit_diary()
        # b does not come of a by one deed, but from b too no deed wakes c without b.
        self.assertIs(is_layer_paper(diary, 2, [[["a"]], [["a"], ["a", "b"], ["b"]], []]), True)
        self.assertIs(is_layer_paper(diary, 2, [[["a"], ["b"]], [["a"], ["a", "b"], ["b"]], []]), True)
        # From a b c one deed leads to a c.
        self.assertIs(is_layer_paper(diary, 2, [[["a"]], [["a"], ["a", "b"], ["a", "b", "c"]], []]), False)
        self.assertIs(is_layer_paper(diary, 2, [[["a"], ["b"]], [["a"], ["a", "b"]], []]), False)

    def test_a_world_that_lacks(self):
        diary = misfit_diary()
        self.assertIs(is_layer_paper(diary, 2, [[["a"]], [["a"]], []]), False)
        self.assertIs(is_layer_paper(diary, 2, [[["a"]], [["a", "b"]], []]), False)
        self.assertIs(is_layer_paper(diary, 2, [[["a"]], [], []]), False)
        self.assertIs(is_layer_paper(diary, 2, [[], [["a"], ["a", "b"]], []]), False)
        self.assertIs(is_layer_paper(diary, 2, [[["b"]], [["b"], ["a", "b"]], []]), False)

    def test_a_world_twice(self):
        diary = misfit_diary()
        for extra in (["a", "b"], ["b", "a"], ["a"]):
            self.assertIs(is_layer_paper(diary, 2, [[["a"]], [["a"], ["a", "b"], extra], []]), False)
        self.assertIs(is_layer_paper(diary, 2, [[["a"], ["a"]], [["a"], ["a", "b"]], []]), False)
        # The same world may stand in several lists, and a name only once in a world.
        self.assertIs(is_layer_paper(diary, 2, [[["a"]], [["a"], ["a", "b", "a"]], []]), False)

    def test_a_world_of_another_class(self):
        diary = misfit_diary()
        for extra in ([], ["d", "a"], ["c"], ["d"]):
            self.assertIs(is_layer_paper(diary, 2, [[["a"]], [["a"], ["a", "b"], extra], []]), False)
            self.assertIs(is_layer_paper(diary, 2, [[["a"], extra], [["a"], ["a", "b"]], []]), False)

    def test_unknown_names(self):
        diary = misfit_diary()
        for name in ("x", "", "A"):
            self.assertIs(is_layer_paper(diary, 2, [[["a"]], [["a"], ["a", "b"], [name]], []]), False)
            self.assertIs(is_layer_paper(diary, 2, [[["a"]], [["a"], ["a", "b"], ["b", name]], []]), False)

    def test_a_last_list_that_is_not_empty(self):
        diary = misfit_diary()
        self.assertIs(is_layer_paper(diary, 2, [[["a"]], [["a"], ["a", "b"]], [["a"]]]), False)
        self.assertIs(is_layer_paper(diary, 2, [[["a"]], [["a"], ["a", "b"]], [[]]]), False)

    def test_a_wrong_number_of_lists(self):
        diary = misfit_diary()
        right = [[["a"]], [["a"], ["a", "b"]], []]
        for paper in ([], right[:1], right[:2], right + [[]], right[:2] + [[], []], [[]], [[["a"]], []]):
            self.assertIs(is_layer_paper(diary, 2, paper), False)

    def test_place_1_and_the_last_one(self):
        diary = misfit_diary()
        self.assertIs(is_layer_paper(diary, 1, [[["a"]], []]), False)
        self.assertIs(is_layer_paper(diary, 3, [[["a"]], [["a"], ["a", "b"]], [], []]), True)
        self.assertIs(is_layer_paper(diary, 3, [[["a"]], [["a"], ["a", "b"]], []]), False)
        first = example_diary([(0, None, ["d"], []), (0, None, [], [])])
        self.assertIs(is_layer_paper(first, 1, [[["a"]], []]), True)
        self.assertIs(is_layer_paper(first, 1, [[["a"], ["c", "b"]], []]), True)
        # Each world of the second list comes of itself by no deed, so the last list would not be empty.
        self.assertIs(is_layer_paper(first, 2, [[["a"]], [["a"]], []]), False)
        self.assertIs(is_layer_paper(first, 2, [[["a"]], [], []]), True)

    def test_bad_places(self):
        diary = misfit_diary()
        for place in (0, 4, -1, True, False, 10 ** 59):
            self.refuses(BadNumber(place), is_layer_paper, diary, place, layers(diary))
            self.refuses(BadNumber(place), is_layer_paper, diary, place, [])
        for place in (0, 1, True):
            self.refuses(BadNumber(place), is_layer_paper, example_diary([]), place, [[["a"]], []])

    def test_exactly_where_there_is_no_run(self):
        for diary in some_diaries():
            rows = layers(diary)
            for place in range(1, len(diary) + 1):
                paper = (rows + [[]] * (place + 1))[:place + 1]
                self.assertIs(is_layer_paper(diary, place, paper), 0 < first_misfit(diary) <= place)

    def test_none_for_a_diary_that_fits(self):
        web = Web([("m", 0), ("c", 1)], [("m", "c", 1)])
        diary = Diary(web, [], [(0, 1, [], []), (1, 2, ["m"], [])])
        lists = [list(part) for part in subsets([(), ("m",), ("c",), ("m", "c")])]
        self.assertTrue(diary_fits(diary))
        for one, other in itertools.product(lists, lists):
            self.assertIs(is_layer_paper(diary, 2, [one, other, []]), False)

    def test_papers_are_not_changed(self):
        paper = [[["a"]], [["b", "a"], ["a"]], []]
        is_layer_paper(misfit_diary(), 2, paper)
        self.assertEqual(paper, [[["a"]], [["b", "a"], ["a"]], []])


class FittingStarts(Case):
    def test_ordinary(self):
        web = example_web()
        self.same(fitting_starts(web, [(2, 2, ["c"], ["a"])]), [
            ("a", "b"), ("a", "c"), ("b", "c"), ("a", "b", "d"), ("a", "c", "d"), ("b", "c", "d"),
        ])
        self.same(fitting_starts(web, []), all_worlds(web))
        self.same(fitting_starts(web, [(0, 0, ["d"], ["c"])]), [
            ("d",), ("a", "d"), ("b", "d"), ("a", "b", "d"),
        ])
        self.same(fitting_starts(plain_web(2, 1), [(1, None, [], [])]), [])

    def test_against_a_search(self):
        for at, web in enumerate(small_webs()):
            sightings = some_sightings(web, at * 7 + 3)
            self.same(fitting_starts(web, sightings), starts_by_search(web, sightings))

    def test_refused(self):
        web = example_web()
        self.refuses(BadCount("sightings", 9), fitting_starts, web, [(9, 9, [], [])] * 9)
        self.refuses(BadNumber(9), fitting_starts, web, [(9, 9, ["x"], [])])
        self.refuses(BadNumber(False), fitting_starts, web, [(0, False, ["x"], [])])
        self.refuses(UnknownFolk("x"), fitting_starts, web, [(0, 0, ["x"], ["y"])])
        self.refuses(Repeated("a"), fitting_starts, web, [(0, 0, [], ["a", "a"])])
        self.refuses(Contrary("a"), fitting_starts, web, [(0, 0, ["b", "a"], ["a"])])

    def test_limits(self):
        # A class of 32 is the greatest that five folk have.
        self.same(len(fitting_starts(plain_web(5), [(0, None, [], [])])), 32)
        self.refuses(TooLarge("folk", 5), fitting_starts, plain_web(6), [])
        self.refuses(TooLarge("folk", 5), fitting_starts, plain_web(10), [(0, None, [], [])])
        self.refuses(Contrary("m"), fitting_starts, plain_web(7), [(0, 0, ["m"], ["m"])])
        self.refuses(BadCount("sightings", 9), fitting_starts, plain_web(7), [(0, 0, [], [])] * 9)


def starts_by_search(web, sightings):
    """The worlds from which all sightings can be seen."""
    return [world for world in all_worlds(web) if runs_by_search(Diary(web, world, sightings))]


class Again(Case):
    def test_equal_answers_when_asked_again(self):
        diaries = some_diaries()[::5]
        calls = (layers, first_misfit, diary_fits)
        before = [kinds(call(diary)) for diary in diaries for call in calls]
        fitting = [diary for diary in diaries if diary_fits(diary)]
        runs = [(shortest_run(diary), find_run(diary), possible(diary)) for diary in fitting]
        self.assertEqual([kinds(call(diary)) for diary in diaries for call in calls], before)
        self.assertEqual([(shortest_run(diary), find_run(diary), possible(diary)) for diary in fitting], runs)

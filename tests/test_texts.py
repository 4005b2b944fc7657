"""Points 13, 14 and 15: the texts of webs and of worlds."""

import itertools

from drowsefolk.errors import BadText, Repeated, UnknownFolk
from drowsefolk.texts import read_web, read_world, web_text, world_text
from drowsefolk.webs import Web
from tests.helpers import EXAMPLE_TEXT, Case, example_web, full_web, names_for, plain_web, small_webs, subsets


class WebText(Case):
    def test_the_example(self):
        self.same(web_text(example_web()), EXAMPLE_TEXT)

    def test_one_member(self):
        self.same(web_text(Web([("a", 0)])), "folk a 0")
        self.same(web_text(Web([("abcdefg8", 9999)])), "folk abcdefg8 9999")

    def test_folk_order_and_pair_order(self):
        web = Web([("z", 1), ("a", 10)], [("z", "a", 9999), ("a", "z", 1)])
        self.same(web_text(web), "folk z 1\nfolk a 10\nwatch a z 1\nwatch z a 9999")

    def test_a_changed_text_is_another(self):
        texts = [web_text(web) for web in small_webs()]
        for one, first in zip(small_webs(), texts):
            for other, second in zip(small_webs(), texts):
                self.assertEqual(one == other, first == second)


class ReadWeb(Case):
    def test_reads_what_is_written(self):
        for web in small_webs() + [plain_web(10), full_web(24), Web([("a", 9999), ("folk", 0)])]:
            text = web_text(web)
            self.assertTrue(read_web(text) == web)
            self.assertEqual(web_text(read_web(text)), text)
            self.assertFalse(text.endswith("\n"))

    def test_watch_lines_in_any_order(self):
        head = "folk a 1\nfolk b 1\nfolk c 2\nfolk d 3\n"
        rows = EXAMPLE_TEXT[len(head):].split("\n")
        for order in itertools.permutations(rows):
            self.assertTrue(read_web(head + "\n".join(order)) == example_web())

    def test_words_of_the_text_as_names(self):
        web = read_web("folk folk 1\nfolk watch 2\nwatch folk watch 3\nwatch watch folk 4")
        self.same(web.watches, (("watch", "folk", 4), ("folk", "watch", 3)))

    def test_numbers(self):
        for number in ("0", "1", "9", "10", "999", "1000", "9999"):
            self.same(read_web(f"folk a {number}").need("a"), int(number))
            if number != "0":
                self.same(read_web(f"folk a 1\nfolk b 1\nwatch a b {number}").weight("a", "b"), int(number))


class ReadWebRefused(Case):
    def at(self, line, text):
        """The text is at fault first in this line."""
        self.refuses(BadText(line), read_web, text)

    def test_the_empty_text(self):
        self.at(1, "")

    def test_empty_lines(self):
        self.at(1, "\nfolk a 1")
        self.at(2, "folk a 1\n\nfolk b 1")
        self.at(3, "folk a 1\nfolk b 1\n")
        self.at(6, EXAMPLE_TEXT.replace("\nwatch a b 1", "\n"))
        self.at(10, EXAMPLE_TEXT + "\n")
        self.at(1, "\n")

    def test_neither_of_the_two_forms(self):
        for line in (
            "folk", "folk a", "folk a 1 1", "watch", "watch a b", "watch a b 1 1", "Folk c 1", "a 1", "-", "turn a",
            "folk a 1 watch a b 1", "need a 1", "folkc 1", "folk c1", "fol c 1", "c folk 1", "1 c folk",
        ):
            self.at(3, "folk a 1\nfolk b 1\n" + line)

    def test_spaces(self):
        for line in (
            " folk c 1", "folk c 1 ", "folk  c 1", "folk c  1", "folkc 1", " ", "  ", " watch a b 1",
            "watch a b 1 ", "watch  a b 1", "watch a  b 1", "watch a b  1", "watcha b 1", "watch ab 1",
        ):
            self.at(3, "folk a 1\nfolk b 1\n" + line)
            self.at(3, "folk a 1\nfolk b 1\n" + line + "\nfolk d 1")

    def test_names_that_are_introduced(self):
        for name in ("A", "1", "1a", "abcdefghi", "a-b", "*", "-", "aB"):
            self.at(2, f"folk a 1\nfolk {name} 1\nfolk b 1")

    def test_numbers(self):
        for number in ("00", "01", "007", "0000", "10000", "12345", "-1", "+1", "1.", "x", "1x", "x1", "", "1_0"):
            self.at(2, f"folk a 1\nfolk b {number}")
            self.at(3, f"folk a 1\nfolk b 1\nwatch a b {number}")

    def test_a_weight_of_0(self):
        self.at(3, "folk a 1\nfolk b 1\nwatch a b 0")

    def test_a_folk_line_after_a_watch_line(self):
        self.at(4, "folk a 1\nfolk b 1\nwatch a b 1\nfolk c 1")
        self.at(4, "folk a 1\nfolk b 1\nwatch a b 1\nfolk c 1\nwatch a c 1")

    def test_a_name_twice(self):
        self.at(3, "folk a 1\nfolk b 1\nfolk a 1")
        self.at(2, "folk a 1\nfolk a 2\nfolk b 1")

    def test_the_eleventh_folk_line(self):
        lines = [f"folk {name} 1" for name in names_for(12)]
        self.assertEqual(len(read_web("\n".join(lines[:10])).names), 10)
        self.at(11, "\n".join(lines[:11]))
        self.at(11, "\n".join(lines))

    def test_watch_lines_of_strangers(self):
        self.at(1, "watch a b 1")
        self.at(1, "watch a b 1\nfolk a 1\nfolk b 1")
        self.at(2, "folk a 1\nwatch a b 1\nfolk b 1")
        self.at(3, "folk a 1\nfolk b 1\nwatch a x 1")
        self.at(3, "folk a 1\nfolk b 1\nwatch x a 1")

    def test_watching_oneself(self):
        self.at(3, "folk a 1\nfolk b 1\nwatch a a 1")

    def test_an_ordered_pair_twice(self):
        self.at(5, "folk a 1\nfolk b 1\nwatch a b 1\nwatch b a 1\nwatch a b 2")

    def test_the_twenty_fifth_watch_line(self):
        text = web_text(full_web(24))
        web = full_web(24)
        rest = [pair for pair in itertools.permutations(web.names, 2) if web.weight(*pair) == 0]
        self.at(31, text + f"\nwatch {rest[0][0]} {rest[0][1]} 1")
        self.assertTrue(read_web(text) == web)

    def test_several_at_once(self):
        self.at(2, "folk a 1\nfolk b 01\nfolk a 1")
        self.at(2, "folk a 1\nfolk a 01\n")
        self.at(1, "folk A 1\n\nwatch x y 0")
        self.at(3, "folk a 1\nfolk b 1\nwatch a b 0\nfolk a 1")
        self.at(1, " \n \n ")
        self.at(4, "folk a 1\nfolk b 1\nwatch a b 1\nwatch a b 1\nwatch a a 1\n")


class WorldText(Case):
    def test_ordinary(self):
        web = Web([("z", 1), ("a", 1), ("m", 1)])
        self.same(world_text(web, ["m", "z"]), "z m")
        self.same(world_text(web, ("a",)), "a")
        self.same(world_text(web, ["m", "a", "z"]), "z a m")

    def test_nobody(self):
        self.same(world_text(example_web(), []), "-")

    def test_refused(self):
        web = example_web()
        self.refuses(UnknownFolk("x"), world_text, web, ["a", "x", "a"])
        self.refuses(Repeated("a"), world_text, web, ["a", "a", "x"])

    def test_what_is_passed_stays(self):
        awake = ["d", "b"]
        self.same(world_text(example_web(), awake), "b d")
        self.assertEqual(awake, ["d", "b"])


class ReadWorld(Case):
    def test_names_in_any_order(self):
        web = Web([("z", 1), ("a", 1), ("m", 1)])
        for order in itertools.permutations(["z", "a", "m"]):
            self.same(read_world(web, " ".join(order)), ("z", "a", "m"))
        self.same(read_world(web, "m z"), ("z", "m"))
        self.same(read_world(web, "m"), ("m",))

    def test_nobody(self):
        self.same(read_world(example_web(), "-"), ())

    def test_reads_what_is_written(self):
        web = plain_web(6)
        for names in subsets(web.names):
            self.same(read_world(web, world_text(web, names)), names)

    def test_refused(self):
        web = example_web()
        for text in (
            "", " ", "  ", " a", "a ", "a  b", " -", "- ", "- a", "a -", "--", "- -", "a a", "a b a", "x", "a x",
            "x a", "A", "a B", "ab", "a,b", "x x",
        ):
            self.refuses(BadText(1), read_world, web, text)

    def test_equal_answers_when_asked_again(self):
        web = example_web()
        before = (web_text(web), world_text(web, ["b"]), read_world(web, "d a"))
        read_web("folk q 1")
        with self.assertRaises(BadText):
            read_world(web, "q")
        self.same((web_text(web), world_text(web, ["b"]), read_world(web, "d a")), before)

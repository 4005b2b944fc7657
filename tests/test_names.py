"""Point 8: names, numbers and the limits."""

from drowsefolk import names
from drowsefolk.names import is_name, is_number
from tests.helpers import Case

CONSTANTS = {
    "MOST_FOLK": 10, "MOST_WATCHES": 24, "MOST_NUMBER": 9999, "MOST_DEEDS": 200, "CLASS_LIMIT": 400,
    "SMALL_CLASS": 64, "SUBSET_LIMIT": 8, "RENAME_LIMIT": 5, "KEEPER_LIMIT": 6, "LIGHT_LIMIT": 4,
    "MOST_BORDER": 3, "MOST_OUTER": 7, "PIECE_FOLK": 9, "PIECE_WATCHES": 21, "MOST_SIGHTINGS": 8,
    "MOST_GAP": 6, "MOST_LINES": 40, "MOST_DEPTH": 4, "MOST_TICKS": 90, "MOST_ROWS": 60,
}


class Constants(Case):
    def test_all_twenty(self):
        self.assertEqual(len(CONSTANTS), 20)
        for name, value in CONSTANTS.items():
            self.same(getattr(names, name), value)


class Names(Case):
    def test_one_to_eight_signs(self):
        for length in range(1, 9):
            self.assertIs(is_name("abcdefgh"[:length]), True)
            self.assertIs(is_name("z9876543"[:length]), True)

    def test_too_short_and_too_long(self):
        for text in ("", "abcdefghi", "a12345678", "a" * 60):
            self.assertIs(is_name(text), False, text)

    def test_each_sign_in_front_and_behind(self):
        letters = "abcdefghijklmnopqrstuvwxyz"
        for code in range(0, 256):
            sign = chr(code)
            self.assertIs(is_name(sign), sign in letters, repr(sign))
            self.assertIs(is_name(sign + "a"), sign in letters, repr(sign))
            self.assertIs(is_name("a" + sign), sign in letters + "0123456789", repr(sign))
            self.assertIs(is_name("a" + sign + "b"), sign in letters + "0123456789", repr(sign))

    def test_digits_in_front(self):
        for text in ("0", "9", "1a", "0abc"):
            self.assertIs(is_name(text), False, text)

    def test_capitals(self):
        for text in ("A", "Ab", "aB", "abC", "ABC"):
            self.assertIs(is_name(text), False, text)

    def test_line_feeds_and_spaces(self):
        for text in ("a\n", "\na", "a\nb", "\n", "abcdefgh\n", " a", "a ", "a b", " ", "*", "-", "a-b", "a_b", "_a"):
            self.assertIs(is_name(text), False, repr(text))

    def test_words_of_texts_are_names(self):
        for text in ("folk", "watch", "end", "each", "turn", "awake", "none", "true"):
            self.assertIs(is_name(text), True, text)


class Numbers(Case):
    def test_both_bounds_and_beside_them(self):
        for value, expected in ((2, False), (3, True), (4, True), (6, True), (7, True), (8, False)):
            self.assertIs(is_number(value, 3, 7), expected, value)

    def test_one_number_alone(self):
        self.assertIs(is_number(5, 5, 5), True)
        self.assertIs(is_number(4, 5, 5), False)
        self.assertIs(is_number(6, 5, 5), False)

    def test_low_above_high(self):
        for value in (4, 5, 6, 0, -1):
            self.assertIs(is_number(value, 6, 4), False, value)

    def test_bools_are_no_numbers(self):
        for low, high in ((0, 1), (-5, 5), (1, 1), (0, 0)):
            self.assertIs(is_number(True, low, high), False)
            self.assertIs(is_number(False, low, high), False)

    def test_numbers_below_zero(self):
        self.assertIs(is_number(-3, -3, -1), True)
        self.assertIs(is_number(-4, -3, -1), False)
        self.assertIs(is_number(0, -3, -1), False)

    def test_numbers_of_sixty_digits(self):
        large = 10 ** 60 - 1
        self.assertIs(is_number(large, 0, 9999), False)
        self.assertIs(is_number(-large, 0, 9999), False)
        self.assertIs(is_number(large, 0, large), True)
        self.assertIs(is_number(large, 0, large - 1), False)
        self.assertIs(is_number(-large, -large, large), True)

    def test_equal_answers_when_asked_again(self):
        for _ in range(2):
            self.assertIs(is_name("abc"), True)
            self.assertIs(is_name("Abc"), False)
            self.assertIs(is_number(3, 3, 4), True)
            self.assertIs(is_number(3, 4, 3), False)

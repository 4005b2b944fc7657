"""Points 72 to 74: the lines of orders, reading them, and their canonical texts."""

import itertools

from drowsefolk.errors import BadText, TooLarge
from drowsefolk.orders import Order
from tests.helpers import Case, Text

WORDS = (
    "wake", "sleep", "turn", "try", "rouse", "if", "while", "until", "each", "end", "awake", "asleep", "may",
    "cannot", "least", "under",
)
CONDITIONS = ("awake a", "asleep b", "may c1", "cannot zz", "least 0", "least 10", "under 7", "under 1")
LONG = "\n".join(["rouse"] * 40)


class Forms(Case):
    def reads(self, text, canonical):
        order = Order(text)
        self.same(order.text, canonical)
        self.same(Order(canonical).text, canonical)
        return order

    def test_lines_that_stand_alone(self):
        for line in ("wake a", "sleep b1", "turn abcdefgh", "try z", "rouse"):
            self.same(len(self.reads(line, line)), 1)

    def test_blocks(self):
        for condition in CONDITIONS:
            for word in ("if", "while", "until"):
                text = f"{word} {condition}\nrouse\nend"
                self.same(len(self.reads(text, f"{word} {condition}\n  rouse\nend")), 3)
        self.reads("each\ntry *\nend", "each\n  try *\nend")

    def test_the_sign_inside_an_each(self):
        for line in ("wake *", "sleep *", "turn *", "try *"):
            self.reads(f"each\n{line}\nend", f"each\n  {line}\nend")
        for asked in ("awake", "asleep", "may", "cannot"):
            for word in ("if", "while", "until"):
                self.reads(
                    f"each\n{word} {asked} *\ntry *\nend\nend", f"each\n  {word} {asked} *\n    try *\n  end\nend",
                )
        # With an inner block between, and behind it.
        self.reads(
            "each\nif least 1\nif under 3\nturn *\nend\nend\nwake *\nend",
            "each\n  if least 1\n    if under 3\n      turn *\n    end\n  end\n  wake *\nend",
        )

    def test_every_number(self):
        for number in range(11):
            for word in ("least", "under"):
                self.reads(f"if {word} {number}\nrouse\nend", f"if {word} {number}\n  rouse\nend")

    def test_remarks_and_empty_lines_and_spaces(self):
        self.reads("", "")
        self.reads("\n\n", "")
        self.reads("   \n \n# wake\n   # a remark\n#", "")
        self.reads("  wake   a  \n\n#x\n    \n   sleep a", "wake a\nsleep a")
        self.reads("if    least    3\n  # inside\n rouse   \n   end   ", "if least 3\n  rouse\nend")
        self.reads("#end\nrouse\n#each\n  ##", "rouse")

    def test_a_later_sign_begins_no_remark(self):
        for text in ("rouse #", "wake a # b", "wake #", "wake a#", "end#"):
            self.refuses(BadText(1), Order, text)
        self.refuses(BadText(2), Order, "#\nrouse # x")

    def test_names_equal_to_words(self):
        for name in WORDS:
            order = self.reads(
                f"wake {name}\nif may {name}\ntry {name}\nend", f"wake {name}\nif may {name}\n  try {name}\nend",
            )
            self.same(order.names, (name,))
        order = self.reads("if awake least\nturn least\nend", "if awake least\n  turn least\nend")
        self.same(order.names, ("least",))

    def test_a_text_of_a_kind_made_from_pythons_own(self):
        order = Order(Text("  wake a\n"))
        self.same((order.text, order.names), ("wake a", ("a",)))


class BadLines(Case):
    def test_none_of_the_forms(self):
        for line in (
            "wakes a", "Wake a", "wake", "wake a b", "sleep", "sleep a a", "turn", "try", "try a b", "rouse a",
            "rouse *",
            "each a", "each *", "each rouse", "if", "if a", "if awake", "if awake a b", "if least", "if least 1 2",
            "while", "while may", "until under", "if not awake a", "if a awake", "awake a", "least 1", "*", "a", "-",
            "wake a;", "if awake a and", "else", "if 1 least", "end end", "end a",
        ):
            self.refuses(BadText(1), Order, line)
            self.refuses(BadText(2), Order, "rouse\n" + line)
            self.refuses(BadText(3), Order, "each\nrouse\n" + line + "\nend")

    def test_names_without_the_form(self):
        for name in ("A", "1a", "a-b", "abcdefghi", "a_", "_", "a*", "**"):
            for line in (f"wake {name}", f"sleep {name}", f"turn {name}", f"try {name}"):
                self.refuses(BadText(2), Order, "each\n" + line + "\nend")
            for asked in ("awake", "asleep", "may", "cannot"):
                for word in ("if", "while", "until"):
                    self.refuses(BadText(2), Order, f"rouse\n{word} {asked} {name}\nrouse\nend")

    def test_the_sign_outside_of_every_each(self):
        for line in ("wake *", "sleep *", "turn *", "try *"):
            self.refuses(BadText(1), Order, line)
            self.refuses(BadText(4), Order, "each\ntry *\nend\n" + line)
            self.refuses(BadText(2), Order, f"if least 1\n{line}\nend")
        for line in ("if awake *", "while may *", "until cannot *"):
            self.refuses(BadText(1), Order, line + "\nrouse\nend")
            self.refuses(BadText(4), Order, "each\nrouse\nend\n" + line + "\nrouse\nend")
        self.refuses(BadText(2), Order, "while least 1\nif asleep *\nrouse\nend\nend")

    def test_numbers_out_of_range_or_written_otherwise(self):
        for number in ("00", "11", "+1", "-1", "01", "010", "100", "1.", "x", "*", "10 ", "a"):
            for word in ("least", "under"):
                if number.strip() != "10":
                    self.refuses(BadText(1), Order, f"if {word} {number}\nrouse\nend")
                    self.refuses(BadText(2), Order, f"each\nuntil {word} {number}\nrouse\nend\nend")

    def test_an_end_where_nothing_is_open(self):
        self.refuses(BadText(1), Order, "end")
        self.refuses(BadText(4), Order, "each\nrouse\nend\nend")
        self.refuses(BadText(3), Order, "\n#\nend")
        self.refuses(BadText(2), Order, "rouse\nend")

    def test_an_end_without_a_kept_line_inside(self):
        for line in ("each", "if least 1", "while under 2", "until awake a"):
            self.refuses(BadText(2), Order, line + "\nend")
            self.refuses(BadText(5), Order, line + "\n\n# remark\n   \nend")
            self.refuses(BadText(3), Order, "rouse\n" + line + "\nend\nrouse")
            self.refuses(BadText(3), Order, "each\n" + line + "\nend\nend")
        # An inner block counts as a line inside.
        self.same(Order("each\nif least 1\nrouse\nend\nend").depth, 2)

    def test_a_fifth_block(self):
        for line in ("each", "if least 1", "while under 2", "until awake a"):
            four = "each\nif least 1\nwhile under 2\nuntil awake a\n"
            self.refuses(BadText(5), Order, four + line + "\nrouse\nend\nend\nend\nend\nend")
            self.refuses(BadText(6), Order, four + "rouse\n" + line + "\nrouse\nend\nend\nend\nend\nend")
        self.same(Order("each\n" * 4 + "rouse\n" + "end\n" * 4).depth, 4)
        # A fourth block may be opened again when one is closed.
        self.same(Order("each\n" * 4 + "rouse\nend\neach\nrouse\n" + "end\n" * 4).depth, 4)

    def test_a_forty_first_kept_line(self):
        self.same(len(Order(LONG)), 40)
        self.same(len(Order("#\n\n" + LONG + "\n \n#")), 40)
        self.refuses(BadText(41), Order, LONG + "\nrouse")
        self.refuses(BadText(43), Order, "#\n\n" + LONG + "\nwake a")
        self.refuses(BadText(44), Order, "#\n" + LONG + "\n\n#\nwake a\nx")
        # An end counts, too.
        inside = "each\n" + "rouse\n" * 38 + "end"
        self.same(len(Order(inside)), 40)
        self.refuses(BadText(41), Order, "each\n" + "rouse\n" * 39 + "end")
        self.refuses(BadText(41), Order, inside + "\neach\nrouse\nend")

    def test_a_block_that_is_open_at_the_end(self):
        self.refuses(BadText(3), Order, "each\nrouse")
        self.refuses(BadText(4), Order, "each\nrouse\n")
        self.refuses(BadText(6), Order, "each\nrouse\n\n  \n#")
        self.refuses(BadText(2), Order, "each")
        self.refuses(BadText(3), Order, "if least 1\n")
        self.refuses(BadText(5), Order, "each\neach\nrouse\nend")
        self.refuses(BadText(41), Order, "each\n" + "rouse\n" * 38 + "rouse")

    def test_the_first_line_at_fault(self):
        self.refuses(BadText(2), Order, "each\nx\nend\nend")
        self.refuses(BadText(3), Order, "each\nrouse\nwake A\nend\nend")
        self.refuses(BadText(1), Order, "wake *\neach\nwake A")
        self.refuses(BadText(1), Order, "end\n" + LONG + "\nrouse\neach")
        # A line can be at fault for two reasons: it is one line all the same.
        self.refuses(BadText(41), Order, LONG + "\nend\nx")
        self.refuses(BadText(41), Order, LONG + "\nwake A\nx")


class Canonical(Case):
    def test_ordinary(self):
        order = Order("rouse\n each\n   if   awake *\nwake b\nend\n end\n\nwake  a ")
        self.same(order.text, "rouse\neach\n  if awake *\n    wake b\n  end\nend\nwake a")
        self.same(order.names, ("b", "a"))
        self.same(order.depth, 2)
        self.same(len(order), 7)

    def test_the_empty_order(self):
        for text in ("", " ", "\n", "# x", "\n#\n   \n"):
            order = Order(text)
            self.same((order.text, order.names, order.depth, len(order)), ("", (), 0, 0))
            self.assertIs(order == Order(""), True)

    def test_names_in_the_order_in_which_they_come(self):
        order = Order(
            "wake z\nif awake m\nsleep a\nend\neach\ntry *\nif may q\nturn z\nend\nend\nuntil cannot m\ntry b\nend"
        )
        self.same(order.names, ("z", "m", "a", "q", "b"))
        self.same(Order("if least 3\nrouse\nend\nwhile under 1\nrouse\nend").names, ())

    def test_depth(self):
        self.same(Order("rouse").depth, 0)
        self.same(Order("each\nrouse\nend").depth, 1)
        self.same(Order("each\nif least 1\nrouse\nend\nend\nrouse").depth, 2)
        # A block's own opening line and end stand outside of it.
        self.same(Order("if least 1\nif least 1\nif least 1\nrouse\nend\nend\nend").depth, 3)

    def test_read_again(self):
        for order in some_orders():
            again = Order(order.text)
            self.assertTrue(again == order)
            self.same((again.text, again.names, again.depth, len(again)), (
                order.text, order.names, order.depth, len(order),
            ))
            lines = order.text.split("\n") if order.text else []
            self.same(len(order), len(lines))
            indents = [len(line) - len(line.lstrip(" ")) for line in lines]
            self.same(order.depth, max(indents, default=0) // 2)
            self.assertTrue(all(indent % 2 == 0 and "  " not in line.strip() for indent, line in zip(indents, lines)))

    def test_the_properties_cannot_be_set(self):
        order = Order("rouse")
        for name in ("text", "names", "depth"):
            with self.assertRaises(AttributeError):
                setattr(order, name, "")
        self.same(order.text, "rouse")


def some_orders():
    """Orders made by a rule without chance."""
    leaves = ("rouse", "wake a", "sleep b", "turn c", "try d", "wake c", "sleep a", "try b")
    heads = (
        "each", "if awake a", "if least 2", "if may c", "while under 3", "while cannot d", "while awake b",
        "until least 3", "until asleep b", "until may d",
    )
    found = []
    for seed in range(400):
        state, lines, blocks = seed * 31337 + 11, [], []
        for _ in range(3 + seed % 12):
            state = (state * 1103515245 + 12345) % 2147483648
            pick = state // 65536
            if pick % 5 == 0 and len(blocks) < 4:
                head = heads[pick // 7 % len(heads)]
                if "each" in blocks and head[-1] in "abcd" and pick % 2:
                    head = head[:-1] + "*"
                lines.append(head)
                blocks.append(head.split(" ")[0])
            elif pick % 5 == 1 and blocks and lines[-1].split(" ")[0] not in ("each", "if", "while", "until"):
                blocks.pop()
                lines.append("end")
            else:
                leaf = leaves[pick // 7 % len(leaves)]
                lines.append(leaf[:-1] + "*" if "each" in blocks and leaf != "rouse" and pick % 2 else leaf)
        if blocks:
            lines.append("rouse")
        found.append(Order("\n".join(lines + ["end"] * len(blocks))))
    return found


class Together(Case):
    def test_sum(self):
        one, other = Order("wake a\n\n"), Order("  each\ntry *\nend")
        self.same((one + other).text, "wake a\neach\n  try *\nend")
        self.same((other + one).text, "each\n  try *\nend\nwake a")
        self.same((one.text, other.text), ("wake a", "each\n  try *\nend"))

    def test_sum_with_the_empty_order(self):
        for order in (Order(""), Order("rouse"), Order("each\ntry *\nend")):
            self.assertTrue(order + Order("") == order)
            self.assertTrue(Order(" \n") + order == order)

    def test_sum_of_more_than_40_lines(self):
        for number in (0, 1, 20, 39, 40):
            one, other = Order("rouse\n" * number), Order("wake a\n" * (40 - number))
            self.same(len(one + other), 40)
        self.refuses(TooLarge("lines", 40), lambda: Order(LONG) + Order("rouse"))
        self.refuses(TooLarge("lines", 40), lambda: Order("rouse") + Order(LONG))
        self.refuses(TooLarge("lines", 40), lambda: Order(LONG) + Order(LONG))

    def test_sums_of_all(self):
        orders = some_orders()[::23]
        for one, other in itertools.product(orders, orders):
            if len(one) + len(other) <= 40:
                total = one + other
                self.same(total.text, "\n".join([part.text for part in (one, other) if part.text]))
                self.same(len(total), len(one) + len(other))
                self.same(total.depth, max(one.depth, other.depth))
                self.same(total.names, tuple(dict.fromkeys(one.names + other.names)))

    def test_equality(self):
        one = Order("each\n try  *\nend")
        self.assertIs(one == Order("#\neach\ntry *\n\nend"), True)
        self.assertIs(one != Order("#\neach\ntry *\n\nend"), False)
        for text in ("", "each\nwake *\nend", "each\ntry *\nend\nrouse", "each\ntry a\nend"):
            self.assertIs(one == Order(text), False)
            self.assertIs(Order(text) == one, False)
            self.assertIs(one != Order(text), True)

    def test_numbers_of_lines(self):
        for number in range(41):
            self.same(len(Order("rouse\n" * number)), number)

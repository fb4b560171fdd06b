import copy
import unittest

from dialdoubt.clocks import made_clock
from dialdoubt.errors import BadClock, NoText, TooAlike
from dialdoubt.texts import clock_text, read_clock
from tests.helper import GREATEST, great_clocks, small_clocks

PLAIN = "dial 12\nhand 1 0 a"
FULL = "dial 12\nblank\nmirror\nhand 1 0 a\nhand 5 3 b"
MOST = "9" * 61
TOO_MANY_FIGURES = "1" + "0" * 61

# What is no number as it is written here.
NO_NUMBERS = (
    "", "-1", "+1", "01", "00", "007", "-0", "1.0", "1e3", "1_0", "0x1", "x", "a", "1a", "a1", "1,2", "1-2", "~", "!",
    TOO_MANY_FIGURES, "0" + MOST, "1" * 500,
)
# What is no small letter.
NO_LOOKS = ("", "A", "Z", "aa", "ab", "abc", "1", "-", "a1", "1a", "`", "{", "~", "@", "a-1")


class Written(unittest.TestCase):
    def test_some(self):
        self.assertEqual(clock_text(made_clock(12, [(1, 0, "a")], False, False)), PLAIN)
        self.assertEqual(clock_text(made_clock(12, [(1, 0, "a"), (5, 3, "b")], True, True)), FULL)
        self.assertEqual(clock_text(made_clock(2, [(1, 0, "z")], True, False)), "dial 2\nblank\nhand 1 0 z")
        self.assertEqual(clock_text(made_clock(2, [(0, 1, "z")], False, True)), "dial 2\nmirror\nhand 0 1 z")
        clock = made_clock(GREATEST, [(-1, 10 ** 59, "a"), (0, 0, "b")], False, False)
        text = "dial 1" + "0" * 60 + "\nhand " + "9" * 60 + " 1" + "0" * 59 + " a\nhand 0 0 b"
        self.assertEqual(clock_text(clock), text)

    def test_hands_stand_in_their_order(self):
        clock = made_clock(12, [(3, 2, "c"), (1, 0, "a"), (3, 2, "c"), (2, 1, "b"), (0, 11, "a")], False, False)
        rows = ["dial 12", "hand 3 2 c", "hand 1 0 a", "hand 3 2 c", "hand 2 1 b", "hand 0 11 a"]
        self.assertEqual(clock_text(clock), "\n".join(rows))

    def test_written_and_read_back(self):
        for clock in small_clocks(401, 2) + great_clocks(401, 1):
            before = copy.deepcopy(clock)
            text = clock_text(clock)
            told = read_clock(text)
            self.assertEqual(told, clock)
            self.assertEqual([type(part) for part in told], [int, tuple, bool, bool])
            self.assertTrue(all(type(hand) is tuple for hand in told[1]))
            self.assertEqual(clock_text(told), text)
            self.assertEqual(clock, before)


class Read(unittest.TestCase):
    def assert_row(self, text, row):
        with self.assertRaises(NoText, msg=text) as caught:
            read_clock(text)
        self.assertEqual(caught.exception.row, row, text)
        self.assertIs(type(caught.exception.row), int)

    def test_some(self):
        self.assertEqual(read_clock(PLAIN), (12, ((1, 0, "a"),), False, False))
        self.assertEqual(read_clock(FULL), (12, ((1, 0, "a"), (5, 3, "b")), True, True))
        self.assertEqual(read_clock("dial 12\nblank\nhand 1 0 a"), (12, ((1, 0, "a"),), True, False))
        self.assertEqual(read_clock("dial 12\nmirror\nhand 1 0 a"), (12, ((1, 0, "a"),), False, True))

    def test_numbers_are_taken_by_their_rests(self):
        self.assertEqual(read_clock("dial 12\nhand 13 24 a\nhand 12 11 b")[1], ((1, 0, "a"), (0, 11, "b")))
        clock = read_clock(f"dial 7\nhand {MOST} 1{'0' * 60} a")
        self.assertEqual(clock, (7, (((10 ** 61 - 1) % 7, 10 ** 60 % 7, "a"),), False, False))
        clock = read_clock(f"dial 1{'0' * 60}\nhand {MOST} 1{'0' * 60} a")
        self.assertEqual(clock, (GREATEST, ((10 ** 60 - 1, 0, "a"),), False, False))

    def test_each_letter(self):
        for look in "abcdefghijklmnopqrstuvwxyz":
            self.assertEqual(read_clock(f"dial 12\nhand 1 0 {look}")[1], ((1, 0, look),))

    def test_one_to_five_hands(self):
        for count in range(1, 6):
            text = "dial 12" + "".join(f"\nhand {at} 0 {'abcde'[at]}" for at in range(count))
            self.assertEqual(len(read_clock(text)[1]), count)

    def test_a_sixth_hand(self):
        five = "".join(f"\nhand {at} 0 {'abcde'[at]}" for at in range(5))
        self.assert_row(f"dial 12{five}\nhand 1 0 f", 6)
        self.assert_row(f"dial 12\nblank{five}\nhand 1 0 f", 7)
        self.assert_row(f"dial 12\nblank\nmirror{five}\nhand 1 0 f\nhand 1 0 g\n", 8)
        self.assert_row(f"dial 12{five}\nblank", 6)
        self.assert_row(f"dial 12{five}\n", 6)

    def test_what_is_no_number(self):
        for word in NO_NUMBERS:
            self.assert_row(f"dial {word}\nhand 1 0 a", 0)
            self.assert_row(f"dial 12\nhand {word} 0 a", 1)
            self.assert_row(f"dial 12\nhand 0 {word} a", 1)
            self.assert_row(f"dial 12\nmirror\nhand 1 0 a\nhand 0 {word} a", 3)

    def test_what_is_no_look(self):
        for word in NO_LOOKS:
            self.assert_row(f"dial 12\nhand 1 0 {word}", 1)
            self.assert_row(f"dial 12\nblank\nhand 1 0 a\nhand 1 0 {word}\nhand 1 0 b", 3)

    def test_other_words(self):
        rows = FULL.split("\n")
        for at, row in enumerate(rows):
            first, *rest = row.split(" ")
            for word in ("", "Dial", "dials", "hands", "Hand", "HAND", "blanks", "Mirror", "mirrors", "x", "0", "put"):
                changed = " ".join([word] + rest)
                self.assert_row("\n".join(rows[:at] + [changed] + rows[at + 1:]), at)

    def test_words_more_or_fewer(self):
        rows = FULL.split("\n")
        for at, row in enumerate(rows):
            words = row.split(" ")
            changes = [words + [more] for more in ("a", "0", "1", "blank")] + [words[:1] + words]
            changes.extend(words[:place] + words[place + 1:] for place in range(len(words)))
            for changed in changes:
                self.assert_row("\n".join(rows[:at] + [" ".join(changed)] + rows[at + 1:]), at)

    def test_blanks_too_many(self):
        rows = FULL.split("\n")
        for at, row in enumerate(rows):
            changes = [" " + row, row + " ", row + "  ", "  " + row, " ", row.replace(" ", "  ")]
            for place, sign in enumerate(row):
                if sign == " ":
                    changes.append(row[:place] + " " + row[place:])
                    changes.append(row[:place] + row[place + 1:])
            for changed in changes:
                if changed != row:
                    self.assert_row("\n".join(rows[:at] + [changed] + rows[at + 1:]), at)

    def test_empty_rows(self):
        rows = FULL.split("\n")
        for at in range(len(rows) + 1):
            self.assert_row("\n".join(rows[:at] + [""] + rows[at:]), at)
        self.assert_row("", 0)
        self.assert_row("\n", 0)
        self.assert_row("\n" + PLAIN, 0)
        self.assert_row(PLAIN + "\n", 2)
        self.assert_row(PLAIN + "\n\n", 2)
        self.assert_row("dial 12\n", 1)
        self.assert_row("dial 12\nblank\n", 2)

    def test_no_hand(self):
        self.assert_row("dial 12", 1)
        self.assert_row("dial 12\nblank", 2)
        self.assert_row("dial 12\nmirror", 2)
        self.assert_row("dial 12\nblank\nmirror", 3)

    def test_no_dial(self):
        self.assert_row("hand 1 0 a", 0)
        self.assert_row("blank", 0)
        self.assert_row("mirror\nhand 1 0 a", 0)
        self.assert_row("blank\ndial 12\nhand 1 0 a", 0)
        self.assert_row("hand 1 0 a\ndial 12", 0)

    def test_rows_twice_in_the_wrong_order_or_behind_a_hand(self):
        for text, row in (
            ("dial 12\ndial 12\nhand 1 0 a", 1),
            ("dial 12\nblank\nblank\nhand 1 0 a", 2),
            ("dial 12\nmirror\nmirror\nhand 1 0 a", 2),
            ("dial 12\nblank\nmirror\nmirror\nhand 1 0 a", 3),
            ("dial 12\nblank\nmirror\nblank\nhand 1 0 a", 3),
            ("dial 12\nmirror\nblank\nhand 1 0 a", 2),
            ("dial 12\nblank\ndial 12\nhand 1 0 a", 2),
            ("dial 12\nmirror\ndial 12\nhand 1 0 a", 2),
            ("dial 12\nhand 1 0 a\nblank", 2),
            ("dial 12\nhand 1 0 a\nmirror", 2),
            ("dial 12\nhand 1 0 a\nmirror\nhand 1 0 b", 2),
            ("dial 12\nblank\nhand 1 0 a\nmirror", 3),
            ("dial 12\nhand 1 0 a\ndial 12", 2),
            ("dial 12\nhand 1 0 a\nhand 1 0 b\ndial 12\nhand 1 0 c", 3),
        ):
            self.assert_row(text, row)

    def test_the_first_row_that_cannot_stand(self):
        self.assert_row("dial 012\nhand 01 0 a\nhand", 0)
        self.assert_row("dial 12\nhand 1 0 a\nhand 1 0 A\nhand 01 0 a\n", 2)
        self.assert_row("dial 12\nblank\nmirrors\nblank", 2)
        self.assert_row("dial 12\nblank x", 1)

    def test_many_out_of_its_bound(self):
        for many in ("0", "1", "1" + "0" * 59 + "1", MOST, "2" + "0" * 60):
            with self.assertRaises(BadClock):
                read_clock(f"dial {many}\nhand 1 0 a")
            # Ahead of too many readings, and behind what can't stand.
            with self.assertRaises(BadClock):
                read_clock(f"dial {many}" + "\nhand 1 0 a" * 5)
            self.assert_row(f"dial {many}", 1)
            self.assert_row(f"dial {many}\nhand 1 0 A", 1)
            self.assert_row(f"dial {many}" + "\nhand 1 0 a" * 6, 6)
        self.assertEqual(read_clock("dial 2\nhand 2 3 a"), (2, ((0, 1, "a"),), False, False))
        self.assertEqual(read_clock(f"dial 1{'0' * 60}\nhand 2 3 a"), (GREATEST, ((2, 3, "a"),), False, False))

    def test_too_many_readings(self):
        for text in (
            "dial 12" + "\nhand 1 0 a" * 4, "dial 12" + "\nhand 1 0 a" * 5, "dial 12\nmirror" + "\nhand 1 0 a" * 3,
            "dial 12\nblank\nmirror" + "\nhand 1 0 a" * 2 + "\nhand 1 0 b" * 2,
            "dial 12" + "\nhand 1 0 a" * 3 + "\nhand 1 0 b" * 2,
        ):
            with self.assertRaises(TooAlike):
                read_clock(text)
            rows = text.split("\n")
            self.assert_row(text + "\nx", len(rows))
            self.assert_row(text + "\n", len(rows))
            self.assert_row("\n".join(rows[:-1] + [rows[-1] + " "]), len(rows) - 1)
        self.assertEqual(len(read_clock("dial 12" + "\nhand 1 0 a" * 3)[1]), 3)
        self.assertEqual(len(read_clock("dial 12\nmirror" + "\nhand 1 0 a" * 2)[1]), 2)

    def test_long_texts(self):
        self.assert_row("x" * 2000, 0)
        self.assert_row("\n" * 2000, 0)
        self.assert_row("dial " + "1" * 1995, 0)
        self.assert_row("dial 12" + "\nhand 1 0 a" * 180, 6)
        self.assert_row("dial 12\nhand 1 0 a" + " " * 1900, 1)

    def test_each_sign_put_in_somewhere(self):
        signs = "".join(chr(code) for code in range(32, 127) if chr(code) != "%") + "\n"
        read = 0
        for place in range(len(FULL) + 1):
            for sign in signs:
                text = FULL[:place] + sign + FULL[place:]
                try:
                    clock = read_clock(text)
                except NoText as refused:
                    at = FULL[:place].count("\n")
                    self.assertIn(refused.row, (at, at + 1))
                    continue
                # Just a figure more can stand, in a number that has no nought ahead.
                self.assertIn(sign, "0123456789")
                self.assertIsInstance(clock, tuple)
                read += 1
        self.assertGreater(read, 40)


if __name__ == "__main__":
    unittest.main()

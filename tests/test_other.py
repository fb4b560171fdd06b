import collections
import copy
import random
import unittest

from dialdoubt.clocks import made_clock, same_picture
from dialdoubt.errors import NoHand
from dialdoubt.other import other_gear, other_right, other_start
from tests.helper import (
    GREATEST, changed_doubts, great_clocks, misfit_doubts, other_doubts, shown_clear, slow_clear, slow_doubts_right,
    small_clocks,
)

TELLS = {"gear": other_gear, "start": other_start}


def slow_tried(clock, kind, hand, tries):
    """Pairs of the numbers that are tried and the clocks with them."""
    many, hands, blank, mirror = clock
    tried = []
    for more in range(tries):
        gear, start, look = hands[hand]
        if kind == "gear":
            gear = number = (gear + more) % many
        else:
            start = number = (start + more) % many
        tried.append((number, (many, hands[:hand] + ((gear, start, look),) + hands[hand + 1:], blank, mirror)))
    return tried


def slow_other_right(clock, kind, hand, tries, told, is_clear):
    """Point 18, word by word."""
    tried = slow_tried(clock, kind, hand, tries)
    if told[0] == "none":
        return slow_doubts_right([other for _, other in tried], told[1])
    _, number, doubts = told
    for at, (tried_number, other) in enumerate(tried):
        if is_clear(other):
            return number == tried_number and slow_doubts_right([ahead for _, ahead in tried[:at]], doubts)
    return False


class OtherMixin(unittest.TestCase):
    def assert_told(self, clock, kind, hand, tries, is_clear):
        """Checks what is told, and tells how many doubts it has, or None where nothing is found."""
        told = TELLS[kind](clock, hand, tries)
        self.assertIs(type(told), tuple)
        self.assertEqual(len(told), 3 if told[0] == "found" else 2)
        self.assertIn(told[0], ("found", "none"))
        doubts = told[-1]
        self.assertIs(type(doubts), list)
        for (_, other), (tick, rival, _) in zip(slow_tried(clock, kind, hand, tries), doubts):
            self.assertTrue(0 <= tick < clock[0] and 0 <= rival < clock[0] and tick != rival)
            self.assertTrue(same_picture(other, tick, rival))
        self.assertTrue(slow_other_right(clock, kind, hand, tries, told, is_clear), (clock, kind, hand, tries, told))
        self.assertIs(other_right(clock, kind, hand, tries, told), True)
        return len(doubts) if told[0] == "found" else None

    def assert_judged(self, clock, kind, hand, tries, told, is_clear=slow_clear):
        due = slow_other_right(clock, kind, hand, tries, told, is_clear)
        self.assertIs(other_right(clock, kind, hand, tries, told), due, (clock, kind, hand, tries, told))
        return due


class Other(OtherMixin):
    def test_some(self):
        clock = made_clock(12, [(2, 0, "a")], False, False)
        word, number, doubts = other_gear(clock, 0, 40)
        self.assertEqual((word, number, len(doubts)), ("found", 5, 3))
        self.assertEqual(doubts[0][2], ((0,), False))
        word, doubts = other_gear(clock, 0, 3)
        self.assertEqual((word, len(doubts)), ("none", 3))
        word, doubts = other_start(clock, 0, 40)
        self.assertEqual((word, len(doubts)), ("none", 40))
        # Two alike hands with one gear have rivals just where they start apart by half the dial.
        clock = made_clock(12, [(1, 0, "a"), (1, 6, "a")], False, False)
        word, number, doubts = other_start(clock, 1, 40)
        self.assertEqual((word, number, len(doubts)), ("found", 7, 1))
        clock = made_clock(12, [(1, 3, "a")], False, False)
        self.assertEqual(other_gear(clock, 0, 1), ("found", 1, []))
        self.assertEqual(other_start(clock, 0, 1), ("found", 3, []))

    def test_small_clocks_against_all_tries_and_ticks(self):
        draw = random.Random(301)
        told = collections.Counter()
        for clock in small_clocks(301, 6):
            hand = draw.randrange(len(clock[1]))
            for kind in ("gear", "start"):
                told[kind, self.assert_told(clock, kind, hand, draw.randint(1, 14), slow_clear)] += 1
        for due in (("gear", None), ("gear", 0), ("gear", 1), ("start", None), ("start", 0), ("start", 1)):
            self.assertGreater(told[due], 5, due)

    def test_one_try_and_forty(self):
        for clock in small_clocks(302, 1, 7):
            for hand in range(len(clock[1])):
                for kind in ("gear", "start"):
                    for tries in (1, 40):
                        found = self.assert_told(clock, kind, hand, tries, slow_clear)
                        self.assertTrue(found is None or found < tries)

    def test_the_last_try(self):
        clock = made_clock(60, [(2, 0, "a")], False, False)
        # 7 is the first gear from 2 on that has no divisor in common with 60.
        self.assertEqual(other_gear(clock, 0, 6)[:2], ("found", 7))
        self.assertEqual(other_gear(clock, 0, 5)[0], "none")
        self.assertEqual(len(other_gear(clock, 0, 5)[1]), 5)

    def test_round_past_the_last_mark(self):
        clock = made_clock(12, [(8, 0, "a"), (0, 0, "b")], False, False)
        self.assertEqual(other_gear(clock, 0, 40)[:2], ("found", 11))
        clock = made_clock(6, [(2, 0, "a"), (2, 0, "b")], False, False)
        self.assertEqual(other_gear(clock, 0, 2)[:2], ("found", 3))
        clock = made_clock(10, [(8, 0, "a"), (5, 0, "b")], True, False)
        self.assertEqual(other_gear(clock, 0, 40), ("found", 8, []))
        clock = made_clock(30, [(28, 0, "a"), (29, 0, "b")], True, False)
        self.assertEqual(other_gear(clock, 1, 1), ("found", 29, []))
        clock = made_clock(30, [(28, 0, "a"), (28, 0, "b")], True, False)
        self.assertEqual(other_gear(clock, 0, 2)[:2], ("found", 29))
        clock = made_clock(30, [(24, 0, "a"), (28, 0, "b")], True, False)
        self.assertEqual(other_gear(clock, 1, 10)[:2], ("found", 1))
        clock = made_clock(12, [(1, 0, "a"), (1, 0, "a"), (1, 0, "a")], False, False)
        self.assertEqual(self.assert_told(clock, "start", 0, 40, slow_clear), 0)
        # The hands are taken for each other where they start apart by half the dial; the start after 1 is 0.
        clock = made_clock(2, [(1, 1, "a"), (1, 0, "a")], False, False)
        word, number, doubts = other_start(clock, 0, 40)
        self.assertEqual((word, number, len(doubts)), ("found", 0, 1))
        # Each number is tried again where the tries are more than the marks.
        clock = made_clock(2, [(0, 0, "a")], True, False)
        for tells in (other_gear, other_start):
            word, doubts = tells(clock, 0, 40)
            self.assertEqual((word, len(doubts)), ("none", 40))

    def test_each_hand(self):
        clock = made_clock(30, [(0, 0, "a"), (10, 0, "b"), (0, 0, "c"), (0, 0, "d"), (15, 0, "e")], False, False)
        found = []
        for hand in range(5):
            self.assert_told(clock, "gear", hand, 40, slow_clear)
            found.append(other_gear(clock, hand, 40)[1])
        self.assertEqual(found, [1, 11, 1, 1, 17])

    def test_no_hand(self):
        clock = made_clock(12, [(1, 0, "a"), (2, 0, "b")], False, False)
        for hand in (-1, -2, 2, 5, 10 ** 60, -10 ** 60):
            for tells in (other_gear, other_start):
                for tries in (1, 40):
                    with self.assertRaises(NoHand):
                        tells(clock, hand, tries)

    def test_great_dials(self):
        draw = random.Random(303)
        told = collections.Counter()
        for clock in great_clocks(303, 1):
            for hand in range(len(clock[1])):
                for kind in ("gear", "start"):
                    told[kind, self.assert_told(clock, kind, hand, draw.choice((1, 5, 40)), shown_clear)] += 1
        for due in (("gear", None), ("gear", 0), ("gear", 1), ("start", None), ("start", 0), ("start", 1)):
            self.assertGreater(told[due], 5, due)
        clock = made_clock(GREATEST, [(GREATEST - 2, 0, "a")], False, False)
        self.assertEqual(other_gear(clock, 0, 2)[:2], ("found", GREATEST - 1))
        clock = made_clock(GREATEST, [(GREATEST - 2, 0, "a"), (GREATEST - 4, 0, "b"), (0, 0, "b")], True, False)
        self.assert_told(clock, "gear", 0, 40, shown_clear)
        # The start goes on past the last mark, and the hands are no longer apart by half the dial.
        clock = made_clock(GREATEST, [(1, GREATEST - 1, "a"), (1, GREATEST // 2 - 1, "a")], False, False)
        word, number, doubts = other_start(clock, 0, 40)
        self.assertEqual((word, number, len(doubts)), ("found", 0, 1))

    def test_nothing_is_changed_and_told_anew(self):
        for clock in small_clocks(304, 1):
            for kind in ("gear", "start"):
                before = copy.deepcopy(clock)
                told = TELLS[kind](clock, 0, 9)
                again = copy.deepcopy(told)
                self.assertIs(other_right(clock, kind, 0, 9, told), True)
                self.assertIs(other_right(clock, kind, 0, 9, told), True)
                self.assertEqual((clock, told), (before, again))
                told[-1].append("more")
                self.assertEqual(TELLS[kind](clock, 0, 9), again)


class JudgedOther(OtherMixin):
    def some_clocks(self):
        """Clocks with a hand, a kind and tries, with what is told of them."""
        draw = random.Random(311)
        for clock in small_clocks(311, 2, 8):
            hand = draw.randrange(len(clock[1]))
            for kind in ("gear", "start"):
                for tries in (1, 2, 12):
                    told = TELLS[kind](clock, hand, tries)
                    clocks = [other for _, other in slow_tried(clock, kind, hand, tries)]
                    yield draw, (clock, kind, hand, tries), told, clocks[:len(told[-1])]

    def test_right_ones_made_otherwise(self):
        made = 0
        for draw, asked, told, clocks in self.some_clocks():
            doubts = other_doubts(draw, clocks)
            self.assertTrue(self.assert_judged(*asked, told[:-1] + (doubts,)))
            made += doubts != told[-1]
        self.assertGreater(made, 50)

    def test_other_numbers(self):
        for _, asked, told, _ in self.some_clocks():
            many = asked[0][0]
            if told[0] == "found":
                word, number, doubts = told
                for far in (1, -1, many, -many, -2 * many, 10 ** 60 * many):
                    self.assertIs(other_right(*asked, (word, number + far, doubts)), False)

    def test_wrong_doubts(self):
        wrong = 0
        for draw, asked, told, clocks in self.some_clocks():
            for doubts in misfit_doubts(clocks[:4], told[-1][:4]):
                self.assertIs(other_right(*asked, told[:-1] + (doubts + told[-1][4:],)), False, (asked, told, doubts))
            for doubts in changed_doubts(draw, clocks, told[-1]):
                wrong += not self.assert_judged(*asked, told[:-1] + (doubts,))
        self.assertGreater(wrong, 500)

    def test_a_later_number_than_the_first(self):
        clock = made_clock(12, [(4, 0, "a")], False, False)
        doubt = (0, 6, ((0,), False))
        self.assertIs(other_right(clock, "gear", 0, 40, ("found", 5, [doubt])), True)
        for doubts in ([], [doubt], [doubt] * 2, [doubt] * 3, [doubt, (0, 1, ((0,), False)), doubt]):
            for number in (4, 6, 7, 11, 1):
                self.assertIs(other_right(clock, "gear", 0, 40, ("found", number, doubts)), False)
        # The same number a round later.
        for doubts in ([doubt] * 12, [doubt] * 13, [doubt] * 39):
            self.assertIs(other_right(clock, "gear", 0, 40, ("found", 5, doubts)), False)

    def test_a_number_beyond_the_tries(self):
        clock = made_clock(60, [(2, 0, "a")], False, False)
        told = other_gear(clock, 0, 6)
        self.assertIs(other_right(clock, "gear", 0, 6, told), True)
        self.assertIs(other_right(clock, "gear", 0, 40, told), True)
        self.assertIs(other_right(clock, "gear", 0, 5, told), False)
        self.assertIs(other_right(clock, "gear", 0, 5, ("none", told[2])), True)
        self.assertIs(other_right(clock, "gear", 0, 6, ("none", told[2])), False)
        self.assertIs(other_right(clock, "gear", 0, 4, ("none", told[2])), False)
        self.assertIs(other_right(clock, "gear", 0, 6, ("none", told[2] + told[2][:1])), False)

    def test_found_for_none_and_the_other_way_about(self):
        for _, asked, told, _ in self.some_clocks():
            many = asked[0][0]
            if told[0] == "found":
                self.assertIs(other_right(*asked, ("none", told[2])), False)
                self.assertIs(other_right(*asked, ("none", (told[2] + [(0, 1, ((0,), False))] * 40)[:asked[3]])), False)
                self.assertIs(other_right(*asked, ("found", told[2])), False)
                self.assertIs(other_right(*asked, ("none",) + told[1:]), False)
                continue
            for number in range(-1, many + 1):
                for count in (0, 1, len(told[1]) - 1, len(told[1])):
                    self.assertIs(other_right(*asked, ("found", number, told[1][:count])), False)

    def test_other_words(self):
        for _, asked, told, _ in self.some_clocks():
            for word in ("keep", "paint", "never", ""):
                self.assertIs(other_right(*asked, (word,) + told[1:]), False)

    def test_kinds_are_not_one(self):
        clock = made_clock(12, [(2, 2, "a")], False, False)
        told = other_gear(clock, 0, 40)
        self.assertIs(other_right(clock, "gear", 0, 40, told), True)
        self.assertIs(other_right(clock, "start", 0, 40, told), False)
        clock = made_clock(12, [(1, 0, "a"), (1, 6, "a")], False, False)
        told = other_start(clock, 1, 40)
        self.assertIs(other_right(clock, "start", 1, 40, told), True)
        self.assertIs(other_right(clock, "gear", 1, 40, told), False)

    def test_no_hand_whatever_is_told(self):
        clock = made_clock(12, [(1, 0, "a"), (2, 0, "b")], False, False)
        for hand in (-1, 2, 10 ** 60):
            for kind in ("gear", "start"):
                for told in (("found", 1, []), ("none", []), ("found", -1, [(0, 0, ((), True))]), ("", []), ()):
                    with self.assertRaises(NoHand):
                        other_right(clock, kind, hand, 3, told)

    def test_ticks_are_taken_by_their_rests(self):
        clock = made_clock(12, [(4, 0, "a")], False, False)
        for far in (0, 12, -12, 12 * 10 ** 59, -12 * 10 ** 59):
            self.assertIs(other_right(clock, "gear", 0, 9, ("found", 5, [(0, 6 + far, ((0,), False))])), True)
            self.assertIs(other_right(clock, "gear", 0, 9, ("found", 5, [(far, 0, ((0,), False))])), False)
            self.assertIs(other_right(clock, "gear", 0, 9, ("found", 5, [(1 + far, 6, ((0,), False))])), False)

    def test_great_dials(self):
        draw = random.Random(312)
        for clock in great_clocks(312, 1):
            hand = draw.randrange(len(clock[1]))
            for kind in ("gear", "start"):
                told = TELLS[kind](clock, hand, 6)
                clocks = [other for _, other in slow_tried(clock, kind, hand, 6)][:len(told[-1])]
                for doubts in misfit_doubts(clocks, told[-1]):
                    self.assertIs(other_right(clock, kind, hand, 6, told[:-1] + (doubts,)), False)
                for doubts in changed_doubts(draw, clocks, told[-1]):
                    self.assert_judged(clock, kind, hand, 6, told[:-1] + (doubts,), shown_clear)
                if told[0] == "found":
                    for number in (told[1] + 1, told[1] - 1, told[1] + clock[0], told[1] - clock[0]):
                        self.assertIs(other_right(clock, kind, hand, 6, ("found", number, told[2])), False)


if __name__ == "__main__":
    unittest.main()

import math
import unittest

from dialdoubt.clocks import made_clock, mark_of, same_picture
from dialdoubt.readings import coarse_step, is_taken, readings_of, rows_of
from tests.helper import GREATEST, slow_readings, slow_rows, slow_same, small_clocks


class Readings(unittest.TestCase):
    def test_order(self):
        clock = made_clock(12, [(1, 0, "a"), (5, 7, "a")], False, True)
        due = [((0, 1), False), ((0, 1), True), ((1, 0), False), ((1, 0), True)]
        self.assertEqual(readings_of(clock), due)

    def test_without_mirror(self):
        clock = made_clock(12, [(1, 0, "b"), (5, 7, "a"), (2, 2, "b")], True, False)
        self.assertEqual(readings_of(clock), [((0, 1, 2), False), ((2, 1, 0), False)])

    def test_six(self):
        clock = made_clock(12, [(1, 0, "a"), (5, 7, "a"), (2, 2, "a")], False, False)
        due = [(0, 1, 2), (0, 2, 1), (1, 0, 2), (1, 2, 0), (2, 0, 1), (2, 1, 0)]
        self.assertEqual(readings_of(clock), [(swap, False) for swap in due])

    def test_one_hand(self):
        self.assertEqual(readings_of(made_clock(2, [(1, 0, "a")], True, False)), [((0,), False)])
        self.assertEqual(readings_of(made_clock(2, [(1, 0, "a")], True, True)), [((0,), False), ((0,), True)])

    def test_against_all_orders(self):
        for clock in small_clocks(21, 3):
            told = readings_of(clock)
            self.assertEqual(told, slow_readings(clock))
            self.assertEqual(told[0], (tuple(range(len(clock[1]))), False))
            self.assertTrue(1 <= len(told) <= 6)
            for swap, mirrored in told:
                self.assertIs(type(swap), tuple)
                self.assertIs(type(mirrored), bool)

    def test_told_list_is_new(self):
        clock = made_clock(12, [(1, 0, "a"), (5, 7, "a")], False, True)
        told = readings_of(clock)
        told.clear()
        self.assertEqual(len(readings_of(clock)), 4)
        self.assertEqual(readings_of(clock), readings_of(clock))


class Rows(unittest.TestCase):
    hands = [(1, 0, "a"), (5, 7, "a"), (2, 3, "b")]

    def test_not_blank(self):
        clock = made_clock(12, self.hands, False, False)
        self.assertEqual(rows_of(clock, ((0, 1, 2), False)), [(1, 1, 0), (5, 5, 0), (2, 2, 0)])
        self.assertEqual(rows_of(clock, ((1, 0, 2), False)), [(5, 1, 5), (1, 5, 7), (2, 2, 0)])

    def test_mirrored(self):
        clock = made_clock(12, self.hands, False, True)
        self.assertEqual(rows_of(clock, ((0, 1, 2), True)), [(1, 11, 0), (5, 7, 10), (2, 10, 6)])
        self.assertEqual(rows_of(clock, ((1, 0, 2), True)), [(5, 11, 5), (1, 7, 5), (2, 10, 6)])
        self.assertEqual(rows_of(clock, ((1, 0, 2), False)), [(5, 1, 5), (1, 5, 7), (2, 2, 0)])

    def test_blank(self):
        clock = made_clock(12, self.hands, True, True)
        self.assertEqual(rows_of(clock, ((0, 1, 2), False)), [(4, 4, 0), (1, 1, 0)])
        self.assertEqual(rows_of(clock, ((1, 0, 2), True)), [(8, 8, 0), (9, 11, 1)])

    def test_one_hand_on_a_blank_dial(self):
        clock = made_clock(12, [(5, 3, "a")], True, True)
        for reading in readings_of(clock):
            self.assertEqual(rows_of(clock, reading), [])
            for tick in range(12):
                for other in range(12):
                    self.assertIs(is_taken(clock, reading, tick, other), True)

    def test_against_the_words(self):
        for clock in small_clocks(22, 3):
            many = clock[0]
            for reading in readings_of(clock):
                told = rows_of(clock, reading)
                self.assertEqual(told, slow_rows(clock, reading))
                self.assertIs(type(told), list)
                for row in told:
                    self.assertIs(type(row), tuple)
                    self.assertTrue(all(0 <= number < many for number in row))

    def test_told_list_is_new(self):
        clock = made_clock(12, self.hands, True, True)
        for reading in readings_of(clock):
            told = rows_of(clock, reading)
            told.clear()
            self.assertEqual(rows_of(clock, reading), slow_rows(clock, reading))


class Taken(unittest.TestCase):
    def test_hands_lie_where_the_reading_says(self):
        clock = made_clock(12, [(1, 0, "a"), (5, 7, "a")], False, False)
        for reading in readings_of(clock):
            swap = reading[0]
            for tick in range(12):
                for other in range(12):
                    due = all(mark_of(clock, swap[i], other) == mark_of(clock, i, tick) for i in (0, 1))
                    self.assertIs(is_taken(clock, reading, tick, other), due)

    def test_which_tick_is_which(self):
        # Three hands in turn: the reading that takes 1 for 0 is not the one that takes 0 for 1.
        clock = made_clock(3, [(1, 0, "a"), (1, 1, "a"), (1, 2, "a")], False, False)
        self.assertIs(is_taken(clock, ((1, 2, 0), False), 1, 0), True)
        self.assertIs(is_taken(clock, ((1, 2, 0), False), 0, 1), False)

    def test_against_the_pictures_of_small_clocks(self):
        for clock in small_clocks(23, 4, 10):
            many = clock[0]
            readings = readings_of(clock)
            for tick in range(many):
                for other in range(many):
                    told = [is_taken(clock, reading, tick, other) for reading in readings]
                    self.assertTrue(all(type(one) is bool for one in told))
                    self.assertIs(any(told), slow_same(clock, tick, other), (clock, tick, other))

    def test_ticks_are_taken_by_their_rests(self):
        for clock in small_clocks(24, 1):
            many = clock[0]
            for reading in readings_of(clock):
                for tick in range(many):
                    due = is_taken(clock, reading, tick, 1)
                    self.assertIs(is_taken(clock, reading, tick - 3 * many, 1 + 10 ** 50 * many), due)

    def test_great_dial(self):
        clock = made_clock(GREATEST, [(2, 0, "a"), (4, 1, "a")], False, True)
        half = GREATEST // 2
        self.assertIs(is_taken(clock, ((0, 1), False), 3, 3 + half), True)
        self.assertIs(is_taken(clock, ((0, 1), False), 3, 4 + half), False)
        self.assertIs(is_taken(clock, ((0, 1), True), 3, -3), False)


class CoarseSteps(unittest.TestCase):
    def test_not_coarse(self):
        for blank, hands in (
            (False, [(1, 0, "a")]), (False, [(5, 3, "a")]), (False, [(4, 0, "a"), (3, 0, "b")]),
            (True, [(1, 0, "a"), (2, 0, "b")]), (True, [(2, 0, "a"), (6, 0, "b"), (5, 0, "c")]),
        ):
            self.assertEqual(coarse_step(made_clock(12, hands, blank, False)), 12)

    def test_coarse(self):
        for blank, hands, step in (
            (False, [(2, 0, "a")], 6), (False, [(8, 1, "a"), (4, 0, "b")], 3), (False, [(0, 5, "a")], 1),
            (True, [(1, 0, "a")], 1), (True, [(1, 0, "a"), (1, 5, "b")], 1), (True, [(1, 0, "a"), (3, 5, "b")], 6),
            (True, [(7, 0, "a"), (4, 0, "b"), (10, 0, "c")], 4),
        ):
            self.assertEqual(coarse_step(made_clock(12, hands, blank, True)), step)

    def test_against_the_words(self):
        for clock in small_clocks(25, 5, 24):
            many = clock[0]
            firsts = [row[0] for row in slow_rows(clock, slow_readings(clock)[0])]
            greatest = max(d for d in range(1, many + 1) if many % d == 0 and all(a % d == 0 for a in firsts))
            step = coarse_step(clock)
            self.assertEqual(step, many // greatest)
            for tick in range(many):
                self.assertIs(is_taken(clock, readings_of(clock)[0], tick, tick + step), True)
                self.assertIs(same_picture(clock, tick, tick + step), True)

    def test_great_dial(self):
        self.assertEqual(coarse_step(made_clock(GREATEST, [(3, 0, "a")], False, False)), GREATEST)
        self.assertEqual(coarse_step(made_clock(GREATEST, [(10 ** 30, 0, "a")], False, False)), 10 ** 30)
        clock = made_clock(GREATEST, [(7, 0, "a"), (7 + 6 ** 50, 0, "b")], True, False)
        self.assertEqual(coarse_step(clock), GREATEST // math.gcd(GREATEST, 6 ** 50))

    def test_same_question_same_answer(self):
        for clock in small_clocks(26, 1):
            self.assertEqual(coarse_step(clock), coarse_step(clock))
            for reading in readings_of(clock):
                self.assertEqual(rows_of(clock, reading), rows_of(clock, reading))


if __name__ == "__main__":
    unittest.main()

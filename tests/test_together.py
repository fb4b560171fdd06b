"""What is told by the parts of the program goes together: points 2 and 3, over the whole."""

import copy
import random
import unittest

from dialdoubt.clocks import (
    kept_hands, made_clock, mark_of, painted_hands, picture_of, same_picture, with_hand,
)
from dialdoubt.counts import clear_below, clear_by, clear_many, doubtful_by, next_clear, number_of
from dialdoubt.desk import Desk
from dialdoubt.keeping import fewest_kept, fewest_painted, kept_right, painted_right
from dialdoubt.other import other_gear, other_right, other_start
from dialdoubt.readings import coarse_step, is_taken, readings_of, rows_of
from dialdoubt.rivals import read_picture, rivals_of, tick_paper, tick_paper_right
from dialdoubt.texts import clock_text, read_clock
from dialdoubt.waits import least_wait, two_looks, wait_right
from dialdoubt.whole import whole_paper, whole_right
from tests.helper import choices, fine, great_clocks, slow_doubt, small_clocks


def some_ticks(draw, clock):
    """All ticks of a small clock, a few of a great one."""
    if clock[0] <= 20:
        return list(range(clock[0]))
    return [0, 1, clock[0] - 1] + [draw.randrange(clock[0]) for _ in range(3)]


class Together(unittest.TestCase):
    def assert_clear(self, draw, clock):
        """All parts tell of a clock that no tick has a rival."""
        told = whole_paper(clock)
        self.assertEqual(told[0], "clear")
        self.assertIs(whole_right(clock, told), True)
        self.assertEqual(coarse_step(clock), clock[0])
        self.assertEqual(clear_many(clock), clock[0])
        self.assertEqual(fewest_painted(clock), ("paint", (), []))
        desk = Desk(clock_text(clock))
        self.assertEqual(desk.say("whole"), "clear")
        self.assertEqual(desk.say("paint"), "0")
        for tick in some_ticks(draw, clock):
            self.assertEqual(read_picture(clock, picture_of(clock, tick)), [tick])
            self.assertEqual(rivals_of(clock, tick), [])
            self.assertEqual(tick_paper(clock, tick)[0], "clear")
            self.assertEqual(least_wait(clock, tick), (0, []))
            self.assertEqual(number_of(clock, tick), (True, tick))

    def assert_doubt(self, clock, doubt):
        """All parts tell of a clock that a tick has a rival."""
        tick, other, reading = doubt
        self.assertTrue(slow_doubt(clock, tick, other, reading))
        self.assertTrue(same_picture(clock, tick, other))
        self.assertTrue(is_taken(clock, reading, tick, other))
        self.assertIn(reading, readings_of(clock))
        self.assertIs(whole_right(clock, ("rival", tick, other, reading)), True)
        self.assertIs(tick_paper_right(clock, tick, ("rival", other, reading)), True)
        self.assertEqual(whole_paper(clock)[0], "rival")
        self.assertEqual(tick_paper(clock, tick)[0], "rival")
        if coarse_step(clock) == clock[0]:
            self.assertIn(other, rivals_of(clock, tick))
            self.assertIn(other, read_picture(clock, picture_of(clock, tick)))
            self.assertLess(clear_many(clock), clock[0])
            self.assertIs(number_of(clock, tick)[0], False)
            self.assertNotEqual(least_wait(clock, tick)[0], 0)

    def clocks(self, seed):
        return small_clocks(seed, 2, 9) + great_clocks(seed, 1)

    def test_kept_hands_leave_a_clear_clock_and_fewer_a_doubt(self):
        draw = random.Random(601)
        for clock in self.clocks(601):
            told = fewest_kept(clock)
            size = len(clock[1]) + 1
            if told[0] == "keep":
                size = len(told[1])
                self.assert_clear(draw, kept_hands(clock, told[1]))
            fewer = choices(clock, range(1, size))
            self.assertEqual(len(fewer), len(told[-1]))
            for some, doubt in zip(fewer, told[-1]):
                self.assert_doubt(kept_hands(clock, some), doubt)

    def test_painted_hands_leave_a_clear_clock_and_fewer_a_doubt(self):
        draw = random.Random(602)
        for clock in self.clocks(602):
            told = fewest_painted(clock)
            if told[0] == "never":
                self.assert_doubt(painted_hands(clock, tuple(range(len(clock[1])))), told[1])
                continue
            self.assert_clear(draw, painted_hands(clock, told[1]))
            fewer = choices(clock, [len(told[1]) - 1]) if told[1] else []
            self.assertEqual(len(fewer), len(told[2]))
            for some, doubt in zip(fewer, told[2]):
                self.assert_doubt(painted_hands(clock, some), doubt)

    def test_other_gears_and_starts(self):
        draw = random.Random(603)
        for clock in self.clocks(603):
            hand = draw.randrange(len(clock[1]))
            gear, start, _ = clock[1][hand]
            for tells, gear_more, start_more in ((other_gear, 1, 0), (other_start, 0, 1)):
                told = tells(clock, hand, 5)
                for more, doubt in enumerate(told[-1]):
                    other = with_hand(clock, hand, gear + gear_more * more, start + start_more * more)
                    self.assert_doubt(other, doubt)
                if told[0] == "found":
                    found = (told[1], start) if gear_more else (gear, told[1])
                    self.assert_clear(draw, with_hand(clock, hand, *found))

    def test_the_whole_and_its_ticks(self):
        draw = random.Random(604)
        for clock in self.clocks(604):
            told = whole_paper(clock)
            self.assertIs(whole_right(clock, told), True)
            self.assertEqual(Desk(clock_text(clock)).say("whole"), "clear" if told[0] == "clear" else "doubt")
            if told[0] == "clear":
                self.assert_clear(draw, clock)
            else:
                self.assert_doubt(clock, told[1:])
            # As no hands are to be painted, so no other gear or start is to be found.
            self.assertEqual(fewest_painted(clock) == ("paint", (), []), told[0] == "clear")
            self.assertEqual(other_gear(clock, 0, 1)[0] == "found", told[0] == "clear")
            self.assertEqual(other_start(clock, 0, 1)[0] == "found", told[0] == "clear")

    def test_ticks_and_their_numbers(self):
        draw = random.Random(605)
        for clock in fine(self.clocks(605)):
            for tick in some_ticks(draw, clock):
                rivals = rivals_of(clock, tick)
                told = tick_paper(clock, tick)
                self.assertIs(tick_paper_right(clock, tick, told), True)
                self.assertEqual(told[0] == "clear", rivals == [])
                self.assertEqual(read_picture(clock, picture_of(clock, tick)), sorted(rivals + [tick]))
                self.assertEqual(two_looks(clock, tick, 0), sorted(rivals + [tick]))
                is_clear, number = number_of(clock, tick)
                self.assertIs(is_clear, rivals == [])
                self.assertEqual((clear_by if is_clear else doubtful_by)(clock, number), tick)
                self.assertEqual(clear_below(clock, tick), number if is_clear else tick - number)
                self.assertEqual(next_clear(clock, tick) == 0, is_clear)
                wait, left = least_wait(clock, tick)
                self.assertIs(wait_right(clock, tick, (wait, left)), True)
                self.assertEqual(wait == 0, is_clear)
                if wait is not None:
                    self.assertEqual(two_looks(clock, tick, wait), [tick])
                for lesser, other in enumerate(left):
                    self.assertIn(other, two_looks(clock, tick, lesser))

    def test_judges_let_by_all_that_is_told(self):
        for clock in self.clocks(606):
            self.assertIs(kept_right(clock, fewest_kept(clock)), True)
            self.assertIs(painted_right(clock, fewest_painted(clock)), True)
            for hand in range(len(clock[1])):
                self.assertIs(other_right(clock, "gear", hand, 6, other_gear(clock, hand, 6)), True)
                self.assertIs(other_right(clock, "start", hand, 6, other_start(clock, hand, 6)), True)

    def test_what_is_told_can_be_handed_in_again(self):
        for clock in self.clocks(607):
            again = read_clock(clock_text(clock))
            self.assertEqual(again, clock)
            self.assertEqual(fewest_kept(again), fewest_kept(clock))
            self.assertEqual(fewest_painted(again), fewest_painted(clock))
            for hand in range(len(clock[1])):
                self.assertEqual(with_hand(clock, hand, *clock[1][hand][:2]), clock)


def asked_of(clock, hand):
    """The answers to all questions about a clock that isn't coarse, by themselves."""
    tick = 5
    picture = picture_of(clock, tick)
    return [
        mark_of(clock, hand, tick), picture, same_picture(clock, tick, 1), readings_of(clock),
        [rows_of(clock, reading) for reading in readings_of(clock)], rivals_of(clock, tick), tick_paper(clock, tick),
        read_picture(clock, picture), clear_many(clock), next_clear(clock, tick), number_of(clock, tick),
        whole_paper(clock), two_looks(clock, tick, 3), least_wait(clock, tick), fewest_kept(clock),
        fewest_painted(clock), other_gear(clock, hand, 4), other_start(clock, hand, 4), clock_text(clock),
    ]


def lists_in(told):
    """All lists that stand in what is told."""
    if isinstance(told, (list, tuple)):
        inner = [found for part in told for found in lists_in(part)]
        return [told] + inner if isinstance(told, list) else inner
    return []


class AskersOwn(unittest.TestCase):
    def test_nothing_is_changed_and_all_is_answered_alike(self):
        for clock in fine(small_clocks(611, 2)):
            before = copy.deepcopy(clock)
            told = asked_of(clock, 0)
            self.assertEqual(asked_of(clock, 0), told)
            self.assertEqual(clock, before)

    def test_each_told_list_is_new(self):
        for clock in fine(small_clocks(612, 2)):
            told = asked_of(clock, 0)
            again = copy.deepcopy(told)
            found = lists_in(told)
            self.assertEqual(len({id(part) for part in found}), len(found))
            for part in found:
                part.append("more")
            self.assertEqual(asked_of(clock, 0), again)

    def test_hands_that_are_handed_in_are_copied(self):
        hands = [(1, 0, "a"), (5, 3, "b")]
        clock = made_clock(12, hands, False, False)
        hands.clear()
        self.assertEqual(clock, (12, ((1, 0, "a"), (5, 3, "b")), False, False))
        some = [1]
        kept, painted = kept_hands(clock, some), painted_hands(clock, some)
        some.clear()
        self.assertEqual((kept[1], painted[1]), (((5, 3, "b"),), ((1, 0, "a"), (5, 3, "c"))))

    def test_judges_leave_what_they_judge_as_it_was(self):
        for clock in fine(small_clocks(613, 1)):
            for judge, told in (
                (lambda told: tick_paper_right(clock, 1, told), tick_paper(clock, 1)),
                (lambda told: whole_right(clock, told), whole_paper(clock)),
                (lambda told: wait_right(clock, 1, told), least_wait(clock, 1)),
                (lambda told: kept_right(clock, told), fewest_kept(clock)),
                (lambda told: painted_right(clock, told), fewest_painted(clock)),
                (lambda told: other_right(clock, "gear", 0, 5, told), other_gear(clock, 0, 5)),
                (lambda told: other_right(clock, "start", 0, 5, told), other_start(clock, 0, 5)),
            ):
                before = copy.deepcopy(told)
                self.assertIs(judge(told), True)
                self.assertIs(judge(told), True)
                self.assertEqual(told, before)


if __name__ == "__main__":
    unittest.main()

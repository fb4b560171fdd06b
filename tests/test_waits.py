import copy
import random
import unittest

from dialdoubt.clocks import made_clock, same_picture
from dialdoubt.errors import Coarse
from dialdoubt.rivals import rivals_of
from dialdoubt.waits import least_wait, two_looks, wait_right
from tests.helper import GREATEST, coarse, fine, great_clocks, slow_keys, slow_rivals, slow_step, small_clocks

# Three hands alike that stand a third of the dial apart: a third of a round later all looks the same.
THIRDS = made_clock(12, [(1, 0, "a"), (1, 4, "a"), (1, 8, "a")], False, False)
# By going through all ticks: the least wait for tick 3 is 7.
LONG = made_clock(24, [(7, 12, "a"), (23, 0, "a")], False, True)


def doubtful_clocks(seed, each, most_marks):
    """Small clocks that are not coarse and have a doubtful tick."""
    return [clock for clock in fine(small_clocks(seed, each, most_marks)) if any(slow_rivals(clock))]


def slow_left(keys, tick, wait):
    """The ticks that two looks leave, by going through all; keys are one where pictures are."""
    many = len(keys)
    return [
        other for other in range(many)
        if keys[other] == keys[tick % many] and keys[(other + wait) % many] == keys[(tick + wait) % many]
    ]


def slow_least(keys, tick):
    alone = [wait for wait in range(201) if slow_left(keys, tick, wait) == [tick % len(keys)]]
    return alone[0] if alone else None


def slow_wait_right(clock, tick, told):
    """Point 16, word by word, of a small clock."""
    many = clock[0]
    keys = slow_keys(clock)
    wait, rivals = told
    if wait != slow_least(keys, tick) or len(rivals) != (201 if wait is None else wait):
        return False
    return all(
        other % many != tick % many and other % many in slow_left(keys, tick, lesser)
        for lesser, other in enumerate(rivals)
    )


class TwoLooks(unittest.TestCase):
    def test_some(self):
        clock = made_clock(12, [(1, 0, "a"), (-1, 0, "a")], False, False)
        self.assertEqual(two_looks(clock, 2, 0), [2, 10])
        self.assertEqual(two_looks(clock, 2, 1), [2])
        self.assertEqual(two_looks(clock, 2, 6), [2, 10])
        self.assertEqual(two_looks(clock, 0, 5), [0])
        self.assertEqual(two_looks(THIRDS, 5, 77), [1, 5, 9])

    def test_small_clocks_against_all_ticks(self):
        draw = random.Random(111)
        counts = []
        for clock in doubtful_clocks(111, 12, 8) + [THIRDS]:
            many = clock[0]
            keys = slow_keys(clock)
            waits = list(range(many + 2)) + [5 * many - 1, 10 ** 60, 10 ** 60 - 1, draw.randrange(10 ** 60)]
            for tick in range(many):
                for wait in waits:
                    told = two_looks(clock, tick, wait)
                    self.assertEqual(told, slow_left(keys, tick, wait), (clock, tick, wait))
                    counts.append(len(told))
        self.assertTrue(counts.count(1) > 500 and counts.count(2) > 500 and max(counts) > 2)

    def test_each_picture_is_seen_for_itself(self):
        # First in the mirror and then not: the reading of the second look may be another one.
        clock = made_clock(8, [(3, 0, "a"), (1, 0, "a")], False, True)
        keys = slow_keys(clock)
        for tick in range(8):
            for wait in range(9):
                self.assertEqual(two_looks(clock, tick, wait), slow_left(keys, tick, wait))

    def test_ticks_of_either_sign_and_beyond_a_round(self):
        for clock in fine(small_clocks(112, 1)):
            many = clock[0]
            for tick in (-1, -many, many, 3 * many + 1, 10 ** 61 - 1, 1 - 10 ** 61):
                for wait in (0, 1, 3):
                    self.assertEqual(two_looks(clock, tick, wait), two_looks(clock, tick % many, wait))
                self.assertEqual(least_wait(clock, tick), least_wait(clock, tick % many))

    def test_great_dials(self):
        draw = random.Random(113)
        for clock in fine(great_clocks(113, 2)):
            many = clock[0]
            tick = draw.randrange(-many, many)
            rivals = rivals_of(clock, tick)
            self.assertEqual(two_looks(clock, tick, 0), sorted(rivals + [tick % many]))
            for wait in (1, many // 2, many, 10 ** 60, draw.randrange(10 ** 60)):
                due = [tick % many] + [o for o in rivals if same_picture(clock, tick + wait, o + wait)]
                self.assertEqual(two_looks(clock, tick, wait), sorted(due))

    def test_told_list_is_new(self):
        told = two_looks(THIRDS, 5, 1)
        told.clear()
        self.assertEqual(two_looks(THIRDS, 5, 1), [1, 5, 9])


class LeastWait(unittest.TestCase):
    def test_some(self):
        clock = made_clock(12, [(1, 0, "a"), (-1, 0, "a")], False, False)
        self.assertEqual(least_wait(clock, 0), (0, []))
        self.assertEqual(least_wait(clock, 2), (1, [10]))
        self.assertEqual(least_wait(LONG, 3)[0], 7)

    def test_small_clocks_against_all_ticks(self):
        waits = []
        for clock in doubtful_clocks(121, 30, 8) + [LONG]:
            keys = slow_keys(clock)
            for tick in range(clock[0]):
                told = least_wait(clock, tick)
                self.assertIs(type(told), tuple)
                wait, rivals = told
                self.assertIs(type(rivals), list)
                self.assertEqual(wait, slow_least(keys, tick))
                self.assertEqual(len(rivals), 201 if wait is None else wait)
                for lesser, other in enumerate(rivals):
                    self.assertTrue(0 <= other < clock[0] and other != tick)
                    self.assertIn(other, slow_left(keys, tick, lesser))
                self.assertIs(wait_right(clock, tick, told), True)
                waits.append(wait)
        for wait in (0, 1, 2, None):
            self.assertGreater(waits.count(wait), 3)
        self.assertIn(7, waits)

    def test_no_wait_tells(self):
        third = 4 * 10 ** 58
        hands = [(1, 5, "a"), (1, 5 + third, "a"), (1, 5 - third, "a")]
        for clock in (THIRDS, made_clock(3 * third, hands, False, False)):
            for tick in (0, 7, -1, 10 ** 60):
                wait, rivals = least_wait(clock, tick)
                self.assertIsNone(wait)
                self.assertEqual(len(rivals), 201)
                others = [(tick + clock[0] // 3) % clock[0], (tick - clock[0] // 3) % clock[0]]
                self.assertTrue(all(other in others for other in rivals))
                self.assertIs(wait_right(clock, tick, (wait, rivals)), True)
                self.assertIs(wait_right(clock, tick, (None, [others[0], others[1]] * 100 + [others[0]])), True)

    def test_great_dials(self):
        draw = random.Random(122)
        waits = []
        for clock in fine(great_clocks(122, 3)):
            many = clock[0]
            tick = draw.randrange(-many, 2 * many)
            told = least_wait(clock, tick)
            wait, rivals = told
            waits.append(wait)
            for lesser, other in enumerate(rivals):
                self.assertNotEqual(other, tick % many)
                self.assertIn(other, two_looks(clock, tick, lesser))
            if wait is None:
                self.assertEqual(len(rivals), 201)
            else:
                self.assertEqual(len(rivals), wait)
                self.assertEqual(two_looks(clock, tick, wait), [tick % many])
            self.assertIs(wait_right(clock, tick, told), True)
        self.assertTrue(waits.count(0) > 10 and len(waits) - waits.count(0) > 10)

    def test_told_list_is_new(self):
        told = least_wait(LONG, 3)
        again = least_wait(LONG, 3)
        self.assertEqual(told, again)
        told[1].clear()
        self.assertEqual(least_wait(LONG, 3), again)
        self.assertEqual(len(again[1]), 7)


class JudgedWaits(unittest.TestCase):
    def assert_judged(self, clock, tick, told):
        due = slow_wait_right(clock, tick, told)
        self.assertIs(wait_right(clock, tick, told), due, (clock, tick, told))
        return due

    def test_all_rivals_of_small_clocks(self):
        for clock in doubtful_clocks(131, 4, 8):
            for tick in range(clock[0]):
                for other in range(clock[0]):
                    self.assert_judged(clock, tick, (1, [other]))
                self.assert_judged(clock, tick, (0, []))

    def test_changed_ones(self):
        for clock in doubtful_clocks(132, 3, 12) + [LONG, THIRDS]:
            many = clock[0]
            for tick in range(0, many, 3):
                wait, rivals = least_wait(clock, tick)
                self.assertIs(wait_right(clock, tick, (wait, [other + 7 * many for other in rivals])), True)
                self.assertIs(wait_right(clock, tick, (wait, [other - 10 ** 58 * many for other in rivals])), True)
                self.assertIs(wait_right(clock, tick - 5 * many, (wait, rivals)), True)
                wrong = [(wait, rivals + [tick]), (wait, rivals + [1]), (wait, rivals + rivals[-1:] + [0])]
                if rivals:
                    wrong += [(wait, rivals[1:]), (wait, rivals[:-1]), (wait, []), (wait, rivals + rivals[:1])]
                for own in (tick, tick + many, tick - 10 ** 58 * many):
                    places = range(0, len(rivals), 1 + len(rivals) // 10)
                    wrong += [(wait, rivals[:at] + [own] + rivals[at + 1:]) for at in places]
                if wait is None:
                    wrong += [(number, rivals[:number]) for number in (0, 1, 2, 199, 200, 201)]
                    wrong += [(number, rivals) for number in (0, 200, 201, -1)]
                else:
                    wrong += [(wait + 1, rivals), (wait - 1, rivals), (wait - 1, rivals[:-1]), (None, rivals)]
                    wrong += [(wait + 1, rivals + rivals[-1:]), (wait + 1, rivals + [tick]), (-1, []), (-1, rivals)]
                    wrong += [(None, (rivals + [tick]) * 201), (None, [tick + 1] * 201), (10 ** 60, rivals)]
                    wrong += [(201, [tick + 1] * 201), (200, [tick + 1] * 200)]
                for told in wrong:
                    self.assertIs(wait_right(clock, tick, told), False, (clock, tick, told))

    def test_a_rival_that_the_second_look_does_not_leave(self):
        clock = made_clock(6, [(4, 4, "a"), (3, 3, "a"), (2, 3, "a")], True, False)
        wait, rivals = least_wait(clock, 1)
        self.assertEqual(wait, 5)
        wrong = 0
        for at in range(5):
            for other in range(6):
                told = (wait, rivals[:at] + [other] + rivals[at + 1:])
                wrong += not self.assert_judged(clock, 1, told)
        self.assertGreater(wrong, 5)

    def test_not_the_least_wait(self):
        clock = made_clock(12, [(1, 0, "a"), (-1, 0, "a")], False, False)
        self.assertIs(wait_right(clock, 2, (1, [10])), True)
        self.assertIs(wait_right(clock, 2, (2, [10, 10])), False)
        self.assertIs(wait_right(clock, 2, (0, [])), False)
        # The second look after 6 leaves the rival, but no wait below that is told by one.
        self.assertIs(wait_right(clock, 2, (7, [10] * 7)), False)
        self.assertIs(wait_right(clock, 0, (0, [])), True)
        self.assertIs(wait_right(clock, 0, (1, [0])), False)
        self.assertIs(wait_right(clock, 0, (None, [])), False)

    def test_none_for_a_number(self):
        rivals = least_wait(THIRDS, 1)[1]
        self.assertIs(wait_right(THIRDS, 1, (None, rivals)), True)
        for told in ((None, rivals[:200]), (None, rivals + [5]), (None, []), (None, rivals[:-1] + [1]),
                     (None, rivals[:-1] + [13]), (None, rivals[:-1] + [2]), (None, [1] + rivals[1:]),
                     (200, rivals[:200]), (201, rivals), (0, [])):
            self.assertIs(wait_right(THIRDS, 1, told), False)

    def test_nothing_is_changed_and_answered_alike(self):
        for clock in (LONG, THIRDS):
            told = least_wait(clock, 3)
            before = copy.deepcopy((clock, told))
            self.assertIs(wait_right(clock, 3, told), True)
            self.assertIs(wait_right(clock, 3, told), True)
            self.assertEqual((clock, told), before)


class CoarseFirst(unittest.TestCase):
    def test_coarse_first(self):
        asked = (
            lambda clock: two_looks(clock, 0, 0), lambda clock: two_looks(clock, -3, 10 ** 60),
            lambda clock: least_wait(clock, 1), lambda clock: wait_right(clock, 0, (0, [])),
            lambda clock: wait_right(clock, 0, (-1, [1, 2])), lambda clock: wait_right(clock, 0, (None, [1] * 201)),
            lambda clock: wait_right(clock, 5, (None, [])), lambda clock: wait_right(clock, 5, (300, [])),
        )
        for clock in coarse(small_clocks(141, 1)) + [made_clock(GREATEST, [(1, 0, "a")], True, True)]:
            for ask in asked:
                with self.assertRaises(Coarse) as caught:
                    ask(clock)
                self.assertEqual(caught.exception.step, slow_step(clock))


if __name__ == "__main__":
    unittest.main()

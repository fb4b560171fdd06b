import copy
import itertools
import random
import unittest

from dialdoubt.clocks import made_clock, same_picture
from dialdoubt.counts import clear_many
from dialdoubt.readings import readings_of, rows_of
from dialdoubt.whole import whole_paper, whole_right
from tests.helper import (
    GREATEST, OTHER_SWAPS, changed_papers, coarse, fine, great_clocks, misfit_papers, slow_rivals, slow_step,
    slow_whole_right, small_clocks,
)


class Whole(unittest.TestCase):
    def assert_told(self, clock, told):
        self.assertIs(type(told), tuple)
        if told[0] == "rival":
            self.assertEqual(len(told), 4)
            self.assertTrue(0 <= told[1] < clock[0] and 0 <= told[2] < clock[0] and told[1] != told[2])
            self.assertTrue(same_picture(clock, told[1], told[2]))
        else:
            self.assertEqual((told[0], len(told), type(told[1])), ("clear", 2, list))
            for paper in told[1]:
                self.assertIs(type(paper), tuple)
                self.assertIs(type(paper[1]), tuple)
                self.assertTrue(all(0 <= number < clock[0] for number in paper[1]))
        self.assertTrue(slow_whole_right(clock, told), (clock, told))
        self.assertIs(whole_right(clock, told), True)

    def test_some(self):
        clock = made_clock(12, [(1, 0, "a")], False, False)
        self.assertEqual(whole_paper(clock), ("clear", [("one", (1,))]))
        clock = made_clock(12, [(1, 0, "a"), (-1, 0, "a")], False, False)
        told = whole_paper(clock)
        self.assertEqual((told[0], told[3]), ("rival", ((1, 0), False)))
        self.assert_told(clock, told)
        clock = made_clock(12, [(1, 0, "a"), (1, 1, "a")], False, False)
        told = whole_paper(clock)
        self.assertEqual([word for word, _ in told[1]], ["one", "never"])
        self.assert_told(clock, told)

    def test_a_reading_that_takes_few_ticks_just_for_themselves(self):
        # Swapped, 2 * other = tick and other = 2 * tick: just at the ticks 0, 1 and 2 of 3, where they are others.
        doubtful = made_clock(3, [(1, 0, "a"), (2, 0, "a")], False, False)
        self.assertEqual(whole_paper(doubtful)[0], "rival")
        # By 5 the same holds at 0 alone, which is taken for itself.
        clear = made_clock(5, [(1, 0, "a"), (2, 0, "a")], False, False)
        told = whole_paper(clear)
        self.assertEqual([word for word, _ in told[1]], ["one", "one"])
        self.assert_told(clear, told)

    def test_small_clocks_against_all_ticks(self):
        words = []
        for clock in small_clocks(91, 10, 14):
            told = whole_paper(clock)
            self.assert_told(clock, told)
            self.assertEqual(told[0] == "rival", any(slow_rivals(clock)), clock)
            words.extend([word for word, _ in told[1][1:]] if told[0] == "clear" else ["rival"])
        for word in ("rival", "never", "one"):
            self.assertGreater(words.count(word), 20)

    def test_all_clocks_of_two_alike_hands(self):
        for many in (2, 3, 4, 6, 8):
            for gear, other, start in itertools.product(range(many), repeat=3):
                clock = made_clock(many, [(gear, 0, "a"), (other, start, "a")], False, False)
                told = whole_paper(clock)
                self.assert_told(clock, told)
                self.assertEqual(told[0] == "rival", any(slow_rivals(clock)), clock)

    def test_coarse(self):
        clocks = coarse(small_clocks(92, 2)) + coarse(great_clocks(92, 1))
        for clock in clocks:
            told = whole_paper(clock)
            self.assertEqual(told[0], "rival")
            self.assert_told(clock, told)
            step = slow_step(clock)
            for tick in (0, -7, 10 ** 61 - 1):
                self.assertIs(whole_right(clock, ("rival", tick, tick + step, readings_of(clock)[0])), True)

    def test_one_hand_on_a_blank_dial(self):
        for many in (2, 12, GREATEST):
            for mirror in (False, True):
                clock = made_clock(many, [(5, 3, "a")], True, mirror)
                self.assert_told(clock, whole_paper(clock))
                for papers in ([("one", ())], [("never", ())], [("one", ())] * 2, [("never", ())] * 2, []):
                    self.assertIs(whole_right(clock, ("clear", papers)), False)

    def test_great_dials(self):
        words = []
        for clock in great_clocks(93, 5):
            told = whole_paper(clock)
            self.assert_told(clock, told)
            words.extend([word for word, _ in told[1][1:]] if told[0] == "clear" else ["rival"])
        for word in ("rival", "never", "one"):
            self.assertGreater(words.count(word), 5)
        for clock in fine(great_clocks(94, 2)):
            self.assertEqual(whole_paper(clock)[0] == "clear", clear_many(clock) == clock[0])

    def test_told_list_is_new(self):
        clock = made_clock(12, [(1, 0, "a"), (1, 1, "a")], False, False)
        told = whole_paper(clock)
        again = whole_paper(clock)
        self.assertEqual(told, again)
        told[1].clear()
        self.assertEqual(whole_paper(clock), again)
        self.assertEqual(len(again[1]), 2)


class JudgedWhole(unittest.TestCase):
    def assert_judged(self, clock, told):
        due = slow_whole_right(clock, told)
        self.assertIs(whole_right(clock, told), due, (clock, told))
        return due

    def test_rivals_told_otherwise(self):
        for clock in small_clocks(101, 1, 7):
            for tick in range(-2, clock[0] + 2):
                for other in range(-2, clock[0] + 2):
                    for reading in readings_of(clock):
                        self.assert_judged(clock, ("rival", tick, other, reading))

    def test_ticks_are_taken_by_their_rests(self):
        clock = made_clock(12, [(1, 0, "a"), (-1, 0, "a")], False, False)
        for far in (0, 12, -12, 12 * 10 ** 58, -12 * 10 ** 58):
            self.assertIs(whole_right(clock, ("rival", 2, 10 + far, ((1, 0), False))), True)
            self.assertIs(whole_right(clock, ("rival", 2 + far, 10, ((1, 0), False))), True)
            self.assertIs(whole_right(clock, ("rival", 2, 2 + far, ((0, 1), False))), False)
            self.assertIs(whole_right(clock, ("rival", 6 + far, 6, ((1, 0), False))), False)
            self.assertIs(whole_right(clock, ("rival", 2, 9 + far, ((1, 0), False))), False)

    def test_readings_that_are_none_of_the_clock(self):
        clock = made_clock(12, [(1, 0, "a"), (-1, 0, "a"), (0, 0, "b")], False, False)
        self.assertIs(whole_right(clock, ("rival", 2, 10, ((1, 0, 2), False))), True)
        for swap in OTHER_SWAPS:
            for mirrored in (False, True):
                self.assertIs(whole_right(clock, ("rival", 2, 10, (swap, mirrored))), False)
        self.assertIs(whole_right(clock, ("rival", 2, 10, ((0, 1, 2), True))), False)
        self.assertIs(whole_right(made_clock(12, clock[1], False, True), ("rival", 2, 10, ((0, 1, 2), True))), True)

    def test_all_multipliers_of_small_clocks(self):
        right = 0
        for many in (2, 3, 4, 6):
            for gears in itertools.product(range(many), repeat=2):
                clock = made_clock(many, [(gears[0], 1, "a"), (gears[1], 0, "a")], False, False)
                plain = whole_paper(clock)
                plain = plain[1][0] if plain[0] == "clear" else ("one", (1, 0))
                for word in ("one", "never", "not", ""):
                    for multipliers in itertools.product(range(many), repeat=2):
                        right += self.assert_judged(clock, ("clear", [plain, (word, multipliers)]))
                        right += self.assert_judged(clock, ("clear", [(word, multipliers), plain]))
        self.assertGreater(right, 20)

    def clear_papers(self):
        draw = random.Random(102)
        for clock in small_clocks(102, 3) + great_clocks(102, 3):
            told = whole_paper(clock)
            if told[0] == "clear":
                yield draw, clock, told[1]

    def test_multipliers_of_any_size_and_sign(self):
        for draw, clock, papers in self.clear_papers():
            many = clock[0]
            for size in (1, 10 ** 61, 10 ** 300):
                other = [
                    (word, tuple(number + many * draw.randint(-size, size) for number in multipliers))
                    for word, multipliers in papers
                ]
                self.assertTrue(self.assert_judged(clock, ("clear", other)))

    def test_papers_made_otherwise(self):
        made = 0
        for draw, clock, papers in self.clear_papers():
            other = []
            for reading, (word, multipliers) in zip(readings_of(clock), papers):
                rows = rows_of(clock, reading)
                changed = list(multipliers)
                if word == "never":
                    changed = [-number for number in changed]
                elif len(rows) > 1 and reading == readings_of(clock)[0]:
                    # Of the plain reading a and b are one, and c is 0: each row times the other's a adds nothing.
                    changed[0] += 7 * rows[1][0]
                    changed[1] -= 7 * rows[0][0]
                made += changed != list(multipliers)
                other.append((word, tuple(changed)))
            self.assertTrue(self.assert_judged(clock, ("clear", other)))
        self.assertGreater(made, 50)

    def test_wrong_papers(self):
        wrong = 0
        for draw, clock, papers in self.clear_papers():
            for other in changed_papers(draw, papers):
                wrong += not self.assert_judged(clock, ("clear", other))
            for other in misfit_papers(papers):
                self.assertIs(whole_right(clock, ("clear", other)), False)
        self.assertGreater(wrong, 500)

    def test_words_of_the_whole(self):
        clear = made_clock(12, [(1, 0, "a")], False, False)
        papers = [("one", (1,))]
        self.assertIs(whole_right(clear, ("clear", papers)), True)
        self.assertIs(whole_right(clear, ("rival", papers)), False)
        self.assertIs(whole_right(clear, ("", papers)), False)
        doubtful = made_clock(12, [(1, 0, "a"), (-1, 0, "a")], False, False)
        self.assertIs(whole_right(doubtful, ("clear", 2, 10, ((1, 0), False))), False)
        self.assertIs(whole_right(doubtful, ("", 2, 10, ((1, 0), False))), False)

    def test_nothing_is_changed_and_answered_alike(self):
        for draw, clock, papers in self.clear_papers():
            told = ("clear", papers)
            before = copy.deepcopy((clock, told))
            self.assertIs(whole_right(clock, told), True)
            self.assertIs(whole_right(clock, told), True)
            self.assertEqual((clock, told), before)
            self.assertEqual(whole_paper(clock), told)


if __name__ == "__main__":
    unittest.main()

import copy
import itertools
import math
import random
import unittest

from dialdoubt.clocks import made_clock, picture_of, same_picture
from dialdoubt.errors import Coarse
from dialdoubt.readings import readings_of, rows_of
from dialdoubt.rivals import read_picture, rivals_of, tick_paper, tick_paper_right
from tests.helper import (
    GREAT_DIALS, GREATEST, OTHER_SWAPS, changed_papers, coarse, fine, great_clocks, misfit_papers, slow_are_one,
    slow_doubt, slow_papers_right, slow_picture, slow_readings, slow_rivals, slow_rows, slow_step, small_clocks,
)


def slow_paper_right(clock, tick, told):
    """Point 12, word by word."""
    many = clock[0]
    if told[0] == "rival":
        return slow_doubt(clock, tick, told[1], told[2])

    def shows(word, a, b, c):
        due = (b * tick + c) % many
        return (word == "not" and a == 0 and due != 0) or (word == "one" and a == 1 and due == tick % many)

    return slow_papers_right(clock, told[1], shows)


def others_by_parts(clock, reading, tick):
    """The ticks that a reading takes for the tick, each part of a great dial gone through for itself."""
    parts = [parts for parts in GREAT_DIALS if math.prod(parts) == clock[0]][0]
    others, step = [0], 1
    for part in parts:
        rows = slow_rows(clock, reading)
        met = [x for x in range(part) if all((a * x - b * tick - c) % part == 0 for a, b, c in rows)]
        others = [other + step * ((x - other) * pow(step, -1, part) % part) for other in others for x in met]
        step *= part
    return others


class PapersMixin(unittest.TestCase):
    def assert_told(self, clock, tick, told):
        """The form of what is told, and that it is right by the words and by the judge."""
        self.assertIs(type(told), tuple)
        if told[0] == "rival":
            self.assertEqual(len(told), 3)
            self.assertTrue(0 <= told[1] < clock[0])
            self.assertIn(told[2], slow_readings(clock))
            self.assertTrue(same_picture(clock, tick, told[1]))
        else:
            self.assertEqual((told[0], len(told), type(told[1])), ("clear", 2, list))
            for paper in told[1]:
                self.assertIs(type(paper), tuple)
                self.assertIs(type(paper[1]), tuple)
                self.assertTrue(all(0 <= number < clock[0] for number in paper[1]))
        self.assertTrue(slow_paper_right(clock, tick, told), (clock, tick, told))
        self.assertIs(tick_paper_right(clock, tick, told), True)

    def assert_judged(self, clock, tick, told):
        due = slow_paper_right(clock, tick, told)
        self.assertIs(tick_paper_right(clock, tick, told), due, (clock, tick, told))
        return due


class Rivals(PapersMixin):
    def test_some(self):
        clock = made_clock(12, [(1, 0, "a"), (-1, 0, "a")], False, False)
        self.assertEqual(rivals_of(clock, 2), [10])
        self.assertEqual(rivals_of(clock, 0), [])
        self.assertEqual(rivals_of(clock, 6), [])
        self.assertEqual(rivals_of(made_clock(12, [(1, 3, "a")], False, True), 1), [5])

    def test_small_clocks_against_all_ticks(self):
        counts = []
        for clock in fine(small_clocks(31, 9, 16)):
            for tick, due in enumerate(slow_rivals(clock)):
                told = rivals_of(clock, tick)
                self.assertEqual(told, due, (clock, tick))
                counts.append(len(told))
        # The clocks that were drawn show clear ticks and such with one rival and with more.
        self.assertTrue(counts.count(0) > 100 and counts.count(1) > 100 and max(counts) >= 3)

    def test_more_than_one_rival(self):
        clock = made_clock(7, [(1, 0, "a"), (2, 0, "a"), (4, 0, "a")], False, False)
        self.assertEqual(rivals_of(clock, 1), [2, 4])
        clock = made_clock(6, [(1, 0, "a"), (3, 3, "a"), (5, 0, "a")], False, False)
        self.assertEqual([rivals_of(clock, tick) for tick in range(6)], slow_rivals(clock))

    def test_ticks_of_either_sign_and_beyond_a_round(self):
        for clock in fine(small_clocks(32, 1)):
            many = clock[0]
            due = slow_rivals(clock)
            for tick in (-1, -many, many, 5 * many - 3, 10 ** 61 - 1, 1 - 10 ** 61):
                self.assertEqual(rivals_of(clock, tick), due[tick % many])

    def test_coarse(self):
        clocks = coarse(small_clocks(33, 2))
        self.assertGreater(len(clocks), 30)
        for clock in clocks:
            for tick in (0, -5, clock[0] + 1):
                with self.assertRaises(Coarse) as caught:
                    rivals_of(clock, tick)
                self.assertEqual(caught.exception.step, slow_step(clock))

    def test_great_dials_gone_through_by_their_parts(self):
        draw = random.Random(34)
        counts = []
        clocks = [clock for clock in fine(great_clocks(34, 6)) if clock[0] == math.prod(GREAT_DIALS[1])]
        for clock in clocks:
            for tick in (0, draw.randrange(clock[0]), draw.choice(rivals_of(clock, 1) or [clock[0] // 2])):
                taken = [other for reading in readings_of(clock) for other in others_by_parts(clock, reading, tick)]
                due = sorted(set(taken) - {tick})
                self.assertEqual(rivals_of(clock, tick), due)
                counts.append(len(due))
        self.assertTrue(counts.count(0) > 10 and len(counts) - counts.count(0) > 10, counts)

    def test_great_dials(self):
        draw = random.Random(35)
        found = 0
        for clock in fine(great_clocks(35, 4)):
            tick = draw.randrange(-GREATEST, GREATEST)
            told = rivals_of(clock, tick)
            self.assertEqual(told, sorted(set(told)))
            self.assertNotIn(tick % clock[0], told)
            for other in told:
                self.assertTrue(0 <= other < clock[0])
                self.assertTrue(same_picture(clock, tick, other))
                self.assertIn(tick % clock[0], rivals_of(clock, other))
                found += 1
            self.assertEqual(tick_paper(clock, tick)[0], "rival" if told else "clear")
        self.assertGreater(found, 10)

    def test_greatest_dial(self):
        clock = made_clock(GREATEST, [(1, 5, "a"), (-1, -5, "a")], False, False)
        self.assertEqual(rivals_of(clock, 7), [GREATEST - 17])
        self.assertEqual(rivals_of(clock, -5), [])
        mirrored = made_clock(GREATEST, [(1, 0, "a")], False, True)
        self.assertEqual(rivals_of(mirrored, 1), [GREATEST - 1])
        self.assertEqual(rivals_of(mirrored, GREATEST // 2), [])

    def test_told_list_is_new(self):
        clock = made_clock(12, [(1, 0, "a"), (-1, 0, "a")], False, False)
        told = rivals_of(clock, 2)
        told.append(5)
        self.assertEqual(rivals_of(clock, 2), [10])


class Papers(PapersMixin):
    def test_small_clocks_against_all_ticks(self):
        words = []
        for clock in small_clocks(41, 5):
            for tick, rivals in enumerate(slow_rivals(clock)):
                told = tick_paper(clock, tick)
                self.assert_told(clock, tick, told)
                self.assertEqual(told[0] == "rival", len(rivals) > 0)
                words.extend([word for word, _ in told[1]] if told[0] == "clear" else ["rival"])
        for word in ("rival", "not", "one"):
            self.assertGreater(words.count(word), 100)

    def test_ticks_of_either_sign_and_beyond_a_round(self):
        for clock in small_clocks(42, 1):
            many = clock[0]
            for tick in (-1, -many, many + 1, 10 ** 61 - 1, 1 - 10 ** 61):
                told = tick_paper(clock, tick)
                self.assert_told(clock, tick, told)
                self.assertIs(tick_paper_right(clock, tick % many, told), True)
                self.assertIs(tick_paper_right(clock, tick % many - 7 * many, told), True)

    def test_one_hand_on_a_blank_dial(self):
        for mirror in (False, True):
            for many in (2, 3, 12, GREATEST):
                clock = made_clock(many, [(5, 3, "a")], True, mirror)
                for tick in (0, 1, many - 1, -many):
                    told = tick_paper(clock, tick)
                    self.assertEqual(told[0], "rival")
                    self.assert_told(clock, tick, told)
                    for papers in ([("one", ())], [("not", ())], [("one", ())] * 2, [("not", ())] * 2, []):
                        self.assertIs(tick_paper_right(clock, tick, ("clear", papers)), False)
                with self.assertRaises(Coarse) as caught:
                    rivals_of(clock, 0)
                self.assertEqual(caught.exception.step, 1)

    def test_coarse_clocks_answer(self):
        clock = made_clock(12, [(2, 0, "a"), (4, 1, "b")], False, False)
        self.assertEqual(tick_paper(clock, 3), ("rival", 9, ((0, 1), False)))
        self.assertEqual(tick_paper(clock, 9), ("rival", 3, ((0, 1), False)))
        for clock in coarse(small_clocks(43, 2)):
            for tick in range(clock[0]):
                self.assertEqual(tick_paper(clock, tick)[0], "rival")

    def test_great_dials(self):
        draw = random.Random(44)
        words = []
        for clock in great_clocks(44, 4):
            for tick in (0, draw.randrange(-GREATEST, GREATEST)):
                told = tick_paper(clock, tick)
                self.assert_told(clock, tick, told)
                words.extend([word for word, _ in told[1]] if told[0] == "clear" else ["rival"])
        for word in ("rival", "not", "one"):
            self.assertGreater(words.count(word), 30)

    def test_told_list_is_new(self):
        clock = made_clock(12, [(1, 0, "a"), (-1, 0, "a")], False, False)
        told = tick_paper(clock, 0)
        again = tick_paper(clock, 0)
        self.assertEqual(told, again)
        told[1].clear()
        self.assertEqual(tick_paper(clock, 0), again)
        self.assertEqual(len(again[1]), 2)


class JudgedPapers(PapersMixin):
    def test_rivals_told_otherwise(self):
        for clock in small_clocks(51, 1, 8):
            many = clock[0]
            for tick in range(many):
                for other in range(-2, 2 * many):
                    for reading in readings_of(clock):
                        self.assert_judged(clock, tick, ("rival", other, reading))

    def test_the_tick_itself_is_no_rival(self):
        for clock in small_clocks(52, 1):
            many = clock[0]
            for other in (3, 3 + many, 3 - 10 ** 50 * many):
                for reading in readings_of(clock):
                    self.assertIs(tick_paper_right(clock, 3, ("rival", other, reading)), False)

    def test_a_rival_is_taken_by_its_rest(self):
        clock = made_clock(12, [(1, 0, "a"), (-1, 0, "a")], False, False)
        for other in (10, -2, 10 + 12 * 10 ** 58, 10 - 12 * 10 ** 58):
            self.assertIs(tick_paper_right(clock, 2, ("rival", other, ((1, 0), False))), True)
            self.assertIs(tick_paper_right(clock, -10, ("rival", other, ((1, 0), False))), True)
            self.assertIs(tick_paper_right(clock, 2, ("rival", other, ((0, 1), False))), False)
            self.assertIs(tick_paper_right(clock, 2, ("rival", other + 1, ((1, 0), False))), False)

    def test_readings_that_are_none_of_the_clock(self):
        clock = made_clock(12, [(1, 0, "a"), (-1, 0, "a"), (0, 0, "b")], False, False)
        self.assertIs(tick_paper_right(clock, 2, ("rival", 10, ((1, 0, 2), False))), True)
        for swap in OTHER_SWAPS:
            for mirrored in (False, True):
                self.assertIs(tick_paper_right(clock, 2, ("rival", 10, (swap, mirrored))), False)
        # In a mirror the two hands would look the same, but there is none.
        self.assertIs(tick_paper_right(clock, 2, ("rival", 10, ((0, 1, 2), True))), False)
        seen = made_clock(12, clock[1], False, True)
        self.assertIs(tick_paper_right(seen, 2, ("rival", 10, ((0, 1, 2), True))), True)

    def test_unlike_hands_are_not_swapped(self):
        clock = made_clock(12, [(1, 0, "a"), (-1, 0, "b")], False, False)
        self.assertIs(tick_paper_right(clock, 2, ("rival", 10, ((1, 0), False))), False)

    def test_all_multipliers_of_small_clocks(self):
        right = 0
        for many in (2, 3, 4, 6):
            for gears in itertools.product(range(many), repeat=2):
                clock = made_clock(many, [(gears[0], 1, "a"), (gears[1], 0, "b")], False, False)
                for word in ("one", "not", "never", ""):
                    for multipliers in itertools.product(range(many), repeat=2):
                        right += self.assert_judged(clock, 1, ("clear", [(word, multipliers)]))
        self.assertGreater(right, 50)

    def test_all_pairs_of_papers_of_a_small_clock(self):
        clock = made_clock(4, [(1, 0, "a"), (2, 1, "b")], False, True)
        papers = [(word, pair) for word in ("one", "not") for pair in itertools.product(range(4), repeat=2)]
        right = [0] * 4
        for tick in range(4):
            for one in papers:
                for other in papers:
                    right[tick] += self.assert_judged(clock, tick, ("clear", [one, other]))
            self.assertEqual(right[tick] > 0, slow_rivals(clock)[tick] == [])
        self.assertGreater(sum(right), 0)

    def clear_papers(self):
        """Told papers of small and great clocks, of clear ticks."""
        draw = random.Random(53)
        for clock in small_clocks(53, 2) + great_clocks(53, 2):
            tick = draw.randrange(-clock[0], 2 * clock[0])
            told = tick_paper(clock, tick)
            if told[0] == "clear":
                yield draw, clock, tick, told[1]

    def test_multipliers_of_any_size_and_sign(self):
        for draw, clock, tick, papers in self.clear_papers():
            many = clock[0]
            for size in (1, 10 ** 61, 10 ** 300):
                other = [
                    (word, tuple(number + many * draw.randint(-size, size) for number in multipliers))
                    for word, multipliers in papers
                ]
                self.assertTrue(self.assert_judged(clock, tick, ("clear", other)))

    def test_papers_made_otherwise(self):
        made = 0
        for draw, clock, tick, papers in self.clear_papers():
            other = []
            for reading, (word, multipliers) in zip(readings_of(clock), papers):
                rows = rows_of(clock, reading)
                changed = list(multipliers)
                if len(rows) > 1 and word == "one":
                    # Each of two rows times the other's a: they add nothing where the reading takes a tick.
                    changed[0] += 5 * rows[1][0]
                    changed[1] -= 5 * rows[0][0]
                elif word == "not":
                    changed = [-number for number in changed]
                made += changed != list(multipliers)
                other.append((word, tuple(changed)))
            self.assertTrue(self.assert_judged(clock, tick, ("clear", other)))
        self.assertGreater(made, 50)

    def test_wrong_papers(self):
        wrong = 0
        for draw, clock, tick, papers in self.clear_papers():
            for other in changed_papers(draw, papers):
                wrong += not self.assert_judged(clock, tick, ("clear", other))
            for other in misfit_papers(papers):
                self.assertIs(tick_paper_right(clock, tick, ("clear", other)), False)
        self.assertGreater(wrong, 500)

    def test_words_of_the_whole(self):
        clock = made_clock(12, [(1, 0, "a"), (-1, 0, "a")], False, False)
        told = tick_paper(clock, 0)
        self.assertIs(tick_paper_right(clock, 0, told), True)
        self.assertIs(tick_paper_right(clock, 0, ("rival", told[1])), False)
        self.assertIs(tick_paper_right(clock, 0, ("", told[1])), False)
        self.assertIs(tick_paper_right(clock, 2, ("clear", 10, ((1, 0), False))), False)
        self.assertIs(tick_paper_right(clock, 2, ("", 10, ((1, 0), False))), False)

    def test_papers_of_another_tick(self):
        clock = made_clock(12, [(1, 0, "a"), (-1, 0, "a")], False, False)
        for tick in range(-12, 24):
            self.assert_judged(clock, tick, tick_paper(clock, 0))
            self.assert_judged(clock, tick, tick_paper(clock, 6))
            self.assert_judged(clock, tick, tick_paper(clock, 2))

    def test_nothing_is_changed_and_answered_alike(self):
        for draw, clock, tick, papers in self.clear_papers():
            told = ("clear", papers)
            before = copy.deepcopy((clock, told))
            self.assertIs(tick_paper_right(clock, tick, told), True)
            self.assertIs(tick_paper_right(clock, tick, told), True)
            self.assertEqual((clock, told), before)
            self.assertEqual(tick_paper(clock, tick), told)


class ReadPictures(unittest.TestCase):
    def test_some(self):
        clock = made_clock(12, [(1, 0, "a"), (-1, 0, "a")], False, False)
        self.assertEqual(read_picture(clock, [("a", 2), ("a", 10)]), [2, 10])
        self.assertEqual(read_picture(clock, [("a", 10), ("a", 2)]), [2, 10])
        self.assertEqual(read_picture(clock, [("a", 0), ("a", 0)]), [0])
        self.assertEqual(read_picture(clock, [("a", 2), ("a", 9)]), [])

    def test_each_tick_in_any_order_turned_and_mirrored(self):
        draw = random.Random(61)
        for clock in fine(small_clocks(61, 2)):
            many, _, blank, mirror = clock
            for tick, rivals in enumerate(slow_rivals(clock)):
                sign = draw.choice((1, -1)) if mirror else 1
                turn = draw.randrange(many) if blank else 0
                picture = [(look, (sign * mark + turn) % many) for look, mark in slow_picture(clock, tick)]
                draw.shuffle(picture)
                self.assertEqual(read_picture(clock, picture), sorted(rivals + [tick]), (clock, picture))

    def test_all_pictures_of_small_clocks(self):
        empty = 0
        for clock in fine(small_clocks(62, 2, 5)):
            many, hands, _, _ = clock
            looks = [look for _, _, look in hands]
            for marks in itertools.islice(itertools.product(range(many), repeat=len(looks)), 200):
                picture = list(zip(looks, marks))
                due = [tick for tick in range(many) if slow_are_one(clock, slow_picture(clock, tick), picture)]
                self.assertEqual(read_picture(clock, picture), due, (clock, picture))
                empty += due == []
        self.assertGreater(empty, 100)

    def test_what_the_clock_lets(self):
        hands = [(1, 0, "a"), (2, 1, "b")]
        picture, turned, mirrored = [("a", 2), ("b", 5)], [("a", 3), ("b", 6)], [("a", 10), ("b", 7)]
        for blank, mirror, due in (
            (False, False, ([2], [], [])), (False, True, ([2], [], [2])),
            (True, False, ([2], [2], [8])), (True, True, ([2, 8], [2, 8], [2, 8])),
        ):
            clock = made_clock(12, hands, blank, mirror)
            self.assertEqual(tuple(read_picture(clock, seen) for seen in (picture, turned, mirrored)), due)

    def test_other_looks_and_counts(self):
        for blank in (False, True):
            clock = made_clock(12, [(1, 0, "a"), (2, 0, "a"), (5, 0, "b")], blank, True)
            own = picture_of(clock, 4)
            self.assertIn(4, read_picture(clock, own))
            for picture in (
                [], own[1:], own[:-1], own + own[:1], own + [("c", 0)], own * 2, [("c", mark) for _, mark in own],
                [("a", mark) for _, mark in own], [("b", mark) for _, mark in own],
                [("a", 4), ("b", 8), ("b", 8)], [("A", 4), ("a", 8), ("b", 8)], [("aa", 4), ("a", 8), ("b", 8)],
                [("", 4), ("a", 8), ("b", 8)],
            ):
                self.assertEqual(read_picture(clock, picture), [])

    def test_coarse_first(self):
        clock = made_clock(12, [(2, 0, "a"), (4, 0, "b")], False, False)
        for picture in ([], [("a", 0)], [("a", 0), ("b", 0)], [("c", 1)] * 9):
            with self.assertRaises(Coarse) as caught:
                read_picture(clock, picture)
            self.assertEqual(caught.exception.step, 6)
        with self.assertRaises(Coarse) as caught:
            read_picture(made_clock(GREATEST, [(1, 0, "a")], True, False), [])
        self.assertEqual(caught.exception.step, 1)

    def test_great_dials(self):
        draw = random.Random(63)
        none = 0
        for clock in fine(great_clocks(63, 4)):
            many, _, blank, mirror = clock
            tick = draw.randrange(many)
            sign = draw.choice((1, -1)) if mirror else 1
            turn = draw.randrange(many) if blank else 0
            picture = [(look, (sign * mark + turn) % many) for look, mark in picture_of(clock, tick)]
            draw.shuffle(picture)
            self.assertEqual(read_picture(clock, picture), sorted(rivals_of(clock, tick) + [tick]))
            if len(picture) > 1:
                look, mark = picture[0]
                other = [(look, (mark + many // 2) % many)] + picture[1:]
                told = read_picture(clock, other)
                none += told == []
                for found in told:
                    self.assertIn(found, read_picture(clock, picture_of(clock, found)))
                    self.assertEqual(told, read_picture(clock, picture_of(clock, found)))
        self.assertGreater(none, 10)

    def test_nothing_is_changed_and_told_anew(self):
        clock = made_clock(12, [(1, 0, "a"), (-1, 0, "a")], False, False)
        picture = [("a", 10), ("a", 2)]
        told = read_picture(clock, picture)
        self.assertEqual(picture, [("a", 10), ("a", 2)])
        told.clear()
        self.assertEqual(read_picture(clock, picture), [2, 10])
        told = read_picture(clock, [])
        told.append(1)
        self.assertEqual(read_picture(clock, []), [])


if __name__ == "__main__":
    unittest.main()

import collections
import copy
import random
import unittest

from dialdoubt.clocks import kept_hands, made_clock, painted_hands, same_picture
from dialdoubt.keeping import fewest_kept, fewest_painted, kept_right, painted_right
from tests.helper import (
    GREATEST, changed_doubts, choices, coarse, great_clocks, misfit_doubts, other_doubts, shown_clear, slow_clear,
    slow_doubts_right, slow_kept, slow_painted, small_clocks,
)

# Two alike hands tell the rest by 3, two others that by 5, each but for the sign.
TWO_PAIRS = made_clock(15, [(10, 0, "a"), (-10, 0, "a"), (6, 0, "b"), (-6, 0, "b")], False, False)
# By 3, 5 and 7 each two of the hands go against each other, and the third one stands.
THREE_ALIKE = made_clock(105, [(36, 0, "a"), (55, 0, "a"), (-91, 0, "a")], False, False)


def kept_clocks(clock, sizes):
    return [slow_kept(clock, some) for some in choices(clock, sizes)]


def painted_clocks(clock, sizes):
    return [slow_painted(clock, some) for some in choices(clock, sizes)]


def slow_kept_right(clock, told, is_clear):
    """Point 17 of kept hands, word by word."""
    count = len(clock[1])
    if told[0] == "never":
        return slow_doubts_right(kept_clocks(clock, range(1, count + 1)), told[1])
    _, hands, doubts = told
    if hands not in choices(clock, range(1, count + 1)) or not is_clear(slow_kept(clock, hands)):
        return False
    return slow_doubts_right(kept_clocks(clock, range(1, len(hands))), doubts)


def slow_painted_right(clock, told, is_clear):
    """Point 17 of painted hands, word by word."""
    count = len(clock[1])
    if told[0] == "never":
        return slow_doubts_right(painted_clocks(clock, [count]), [told[1]])
    _, hands, doubts = told
    if hands not in choices(clock, range(count + 1)) or not is_clear(slow_painted(clock, hands)):
        return False
    fewer = [] if hands == () else painted_clocks(clock, [len(hands) - 1])
    return slow_doubts_right(fewer, doubts)


def wrong_hands(hands):
    """Other hands: some more, fewer, others, twice, none that there are, not rising."""
    told = [hands[:at] + hands[at + 1:] for at in range(len(hands))]
    told.extend([hands[::-1], hands + hands[-1:], hands[:1] + hands, (-1,) + hands, hands + (5,), hands + (10 ** 60,)])
    for at in range(len(hands)):
        for hand in (-1, *range(6), hands[at] - 5, 10 ** 60):
            told.append(hands[:at] + (hand,) + hands[at + 1:])
    for hand in range(5):
        told.append(tuple(sorted(hands + (hand,))))
        told.append(hands + (hand,))
    return told + [(), (0,), (0, 1, 2, 3, 4), (0, 1, 2, 3, 4, 5), (0,) * 300]


class Told(unittest.TestCase):
    def assert_doubts(self, clocks, doubts):
        self.assertIs(type(doubts), list)
        self.assertEqual(len(clocks), len(doubts))
        for clock, doubt in zip(clocks, doubts):
            self.assert_doubt(clock, doubt)

    def assert_doubt(self, clock, doubt):
        self.assertEqual((type(doubt), len(doubt)), (tuple, 3))
        tick, other, _ = doubt
        self.assertTrue(0 <= tick < clock[0] and 0 <= other < clock[0] and tick != other)
        self.assertTrue(same_picture(clock, tick, other))
        self.assertTrue(slow_doubts_right([clock], [doubt]))

    def assert_kept(self, clock, is_clear):
        """Checks what is told of kept hands, and tells how many they are."""
        told = fewest_kept(clock)
        self.assertIs(type(told), tuple)
        self.assertTrue(slow_kept_right(clock, told, is_clear), (clock, told))
        self.assertIs(kept_right(clock, told), True)
        if told[0] == "never":
            self.assertEqual(len(told), 2)
            self.assert_doubts(kept_clocks(clock, range(1, len(clock[1]) + 1)), told[1])
            return None
        self.assertEqual((told[0], len(told), type(told[1])), ("keep", 3, tuple))
        self.assert_doubts(kept_clocks(clock, range(1, len(told[1]))), told[2])
        return len(told[1])

    def assert_painted(self, clock, is_clear):
        told = fewest_painted(clock)
        self.assertIs(type(told), tuple)
        self.assertTrue(slow_painted_right(clock, told, is_clear), (clock, told))
        self.assertIs(painted_right(clock, told), True)
        if told[0] == "never":
            self.assertEqual(len(told), 2)
            self.assert_doubt(painted_clocks(clock, [len(clock[1])])[0], told[1])
            return None
        self.assertEqual((told[0], len(told), type(told[1])), ("paint", 3, tuple))
        self.assert_doubts(painted_clocks(clock, [len(told[1]) - 1]) if told[1] else [], told[2])
        return len(told[1])


class Kept(Told):
    def test_some(self):
        clock = made_clock(12, [(1, 0, "a"), (-1, 0, "a")], False, False)
        self.assertEqual(fewest_kept(clock), ("keep", (0,), []))
        clock = made_clock(12, [(4, 0, "a"), (3, 0, "b")], False, False)
        word, hands, doubts = fewest_kept(clock)
        self.assertEqual((word, hands, len(doubts)), ("keep", (0, 1), 2))
        # Just one hand is kept, so a doubt's reading has one hand as well.
        self.assertEqual([reading for _, _, reading in doubts], [((0,), False)] * 2)
        clock = made_clock(12, [(2, 0, "a")], False, False)
        word, doubts = fewest_kept(clock)
        self.assertEqual((word, len(doubts)), ("never", 1))

    def test_small_clocks_against_all_hands_and_ticks(self):
        told = collections.Counter()
        for clock in small_clocks(201, 4):
            fewest = self.assert_kept(clock, slow_clear)
            clear = [some for some in choices(clock, range(1, 6)) if slow_clear(slow_kept(clock, some))]
            self.assertEqual(fewest, min([len(some) for some in clear], default=None), clock)
            told[fewest] += 1
        for fewest in (None, 1, 2, 3):
            self.assertGreater(told[fewest], 5)

    def test_more_hands_can_leave_rivals_that_fewer_do_not(self):
        # The first hand alone has no rivals, nor has the second one, but both have.
        clock = made_clock(5, [(1, 0, "a"), (-1, 0, "a")], False, False)
        self.assertFalse(slow_clear(clock))
        self.assertEqual(self.assert_kept(clock, slow_clear), 1)

    def test_all_of_one_to_five_hands(self):
        many, hands = 2 * 3 * 5 * 7 * 11, []
        for count, prime in enumerate((2, 3, 5, 7, 11), 1):
            hands.append((many // prime, count, "abcde"[count - 1]))
            clock = made_clock(many, hands, False, False)
            self.assertEqual(self.assert_kept(clock, shown_clear), 5 if count == 5 else None)
        # The last hand that is kept isn't the last one there is, nor the first one the first.
        clock = made_clock(30, [(0, 0, "z"), (15, 0, "a"), (10, 0, "b"), (6, 0, "c"), (0, 0, "d")], False, False)
        self.assertEqual(fewest_kept(clock)[:2], ("keep", (1, 2, 3)))
        self.assertEqual(self.assert_kept(clock, slow_clear), 3)

    def test_order_of_the_doubts(self):
        clock = made_clock(30, [(15, 0, "a"), (10, 0, "b"), (6, 0, "c"), (5, 0, "d")], False, False)
        word, hands, doubts = fewest_kept(clock)
        self.assertEqual((word, hands), ("keep", (2, 3)))
        self.assertEqual([len(swap) for _, _, (swap, _) in doubts], [1] * 4)
        clock = made_clock(60, [(30, 0, "a"), (20, 0, "b"), (12, 0, "c"), (0, 0, "d")], False, False)
        word, doubts = fewest_kept(clock)
        self.assertEqual(word, "never")
        self.assertEqual([len(swap) for _, _, (swap, _) in doubts], [1] * 4 + [2] * 6 + [3] * 4 + [4])
        self.assert_kept(clock, slow_clear)

    def test_coarse_clocks(self):
        for clock in coarse(small_clocks(202, 3)):
            # Fewer hands of a coarse clock are coarse as well.
            self.assertIsNone(self.assert_kept(clock, slow_clear))

    def test_one_hand(self):
        for mirror in (False, True):
            for many in (2, 12, GREATEST):
                self.assertIsNone(self.assert_kept(made_clock(many, [(1, 0, "a")], True, mirror), shown_clear))
        self.assertEqual(fewest_kept(made_clock(GREATEST, [(7, 3, "a")], False, False)), ("keep", (0,), []))

    def test_great_dials(self):
        told = collections.Counter()
        for clock in great_clocks(203, 3):
            told[self.assert_kept(clock, shown_clear)] += 1
        for fewest in (None, 1, 2, 3):
            self.assertGreater(told[fewest], 2)


class Painted(Told):
    def test_some(self):
        clock = made_clock(12, [(1, 0, "a")], False, False)
        self.assertEqual(fewest_painted(clock), ("paint", (), []))
        clock = made_clock(12, [(1, 0, "a"), (-1, 0, "a")], False, False)
        word, hands, doubts = fewest_painted(clock)
        self.assertEqual((word, len(hands), len(doubts)), ("paint", 1, 1))
        # The doubt is one of the clock as it is, where both hands look alike.
        self.assertEqual(doubts[0][2], ((1, 0), False))
        self.assertTrue(same_picture(clock, doubts[0][0], doubts[0][1]))
        clock = made_clock(12, [(2, 0, "a"), (4, 0, "a")], False, False)
        word, doubt = fewest_painted(clock)
        self.assertEqual((word, doubt[2]), ("never", ((0, 1), False)))

    def test_two_hands_to_be_painted(self):
        for clock, count in ((TWO_PAIRS, 4), (THREE_ALIKE, 3)):
            word, hands, doubts = fewest_painted(clock)
            self.assertEqual((word, len(hands), len(doubts)), ("paint", 2, count))
            self.assertEqual(self.assert_painted(clock, slow_clear), 2)
        # Of two pairs one hand of each is painted.
        self.assertIn(fewest_painted(TWO_PAIRS)[1], [(0, 2), (0, 3), (1, 2), (1, 3)])

    def test_small_clocks_against_all_hands_and_ticks(self):
        told = collections.Counter()
        for clock in small_clocks(211, 8):
            fewest = self.assert_painted(clock, slow_clear)
            clear = [some for some in choices(clock, range(6)) if slow_clear(slow_painted(clock, some))]
            self.assertEqual(fewest, min([len(some) for some in clear], default=None), clock)
            told[fewest] += 1
        for fewest in (None, 0, 1):
            self.assertGreater(told[fewest], 5)

    def test_coarse_and_mirrored_clocks_are_never_helped(self):
        for clock in coarse(small_clocks(212, 3)):
            self.assertIsNone(self.assert_painted(clock, slow_clear))
        clock = made_clock(12, [(1, 0, "a"), (5, 0, "b")], False, True)
        word, doubt = fewest_painted(clock)
        self.assertEqual((word, doubt[2]), ("never", ((0, 1), True)))

    def test_great_dials(self):
        told = collections.Counter()
        for clock in great_clocks(213, 3):
            told[self.assert_painted(clock, shown_clear)] += 1
        for fewest in (None, 0, 1):
            self.assertGreater(told[fewest], 5)
        many = 10 ** 60
        five, two = 5 ** 60, 2 ** 60
        pairs = [(five, 0, "a"), (-five, 0, "a"), (two, 0, "b"), (-two, 0, "b"), (0, 7, "c")]
        self.assertEqual(self.assert_painted(made_clock(many, pairs, False, False), shown_clear), 2)


class Judged(unittest.TestCase):
    """What both judges have in common: told ones, right ones made otherwise, and wrong ones."""

    def assert_judged(self, judge, slow, clock, told, is_clear=slow_clear):
        due = slow(clock, told, is_clear)
        self.assertIs(judge(clock, told), due, (clock, told))
        return due

    def judged_small(self):
        return small_clocks(221, 1, 8) + [TWO_PAIRS]


class JudgedKept(Judged):
    def judged(self, clock, told):
        return self.assert_judged(kept_right, slow_kept_right, clock, told)

    def test_right_ones_made_otherwise(self):
        draw = random.Random(222)
        made = 0
        for clock in self.judged_small():
            told = fewest_kept(clock)
            size = len(told[1]) if told[0] == "keep" else len(clock[1]) + 1
            for _ in range(3):
                doubts = other_doubts(draw, kept_clocks(clock, range(1, size)))
                if told[0] == "never":
                    self.assertTrue(self.judged(clock, ("never", doubts)))
                for some in choices(clock, [size]):
                    made += self.judged(clock, ("keep", some, doubts)) and some != told[1]
        self.assertGreater(made, 20)

    def test_wrong_doubts(self):
        draw = random.Random(223)
        wrong = 0
        for clock in self.judged_small():
            told = fewest_kept(clock)
            size = len(told[1]) if told[0] == "keep" else len(clock[1]) + 1
            clocks = kept_clocks(clock, range(1, size))
            for doubts in misfit_doubts(clocks, told[-1]):
                self.assertIs(kept_right(clock, told[:-1] + (doubts,)), False)
            for doubts in changed_doubts(draw, clocks, told[-1]):
                wrong += not self.judged(clock, told[:-1] + (doubts,))
        self.assertGreater(wrong, 200)

    def test_wrong_hands(self):
        wrong = 0
        for clock in self.judged_small():
            told = fewest_kept(clock)
            hands, doubts = told[1:] if told[0] == "keep" else ((0,), told[1])
            for other in wrong_hands(hands):
                wrong += not self.judged(clock, ("keep", other, doubts))
                self.judged(clock, ("keep", other, []))
                # Clear hands that are too many, with a doubt for each choice of fewer but the clear ones.
                fewer = kept_clocks(clock, range(1, min(len(other), 6)))
                filled = (doubts + [(0, 1, ((0,), False))] * len(fewer))[:len(fewer)]
                self.judged(clock, ("keep", other, filled))
        self.assertGreater(wrong, 500)

    def test_more_hands_than_the_fewest(self):
        clock = made_clock(12, [(1, 0, "a"), (5, 0, "b"), (3, 0, "c")], False, False)
        self.assertIs(kept_right(clock, ("keep", (0,), [])), True)
        self.assertIs(kept_right(clock, ("keep", (1,), [])), True)
        self.assertIs(kept_right(clock, ("keep", (2,), [])), False)
        doubt = (0, 4, ((0,), False))
        for doubts in ([], [doubt], [doubt] * 2, [doubt] * 3):
            for hands in ((0, 1), (0, 2), (1, 2), (0, 1, 2), (0, 0), (1, 0), ()):
                self.assertIs(kept_right(clock, ("keep", hands, doubts)), False)

    def test_hands_of_which_none_are_kept(self):
        for clock in small_clocks(224, 1):
            self.assertIs(kept_right(clock, ("keep", (), [])), False)

    def test_hands_with_rivals(self):
        clock = made_clock(12, [(4, 0, "a"), (3, 0, "b"), (8, 0, "c")], False, False)
        word, hands, doubts = fewest_kept(clock)
        self.assertEqual((word, hands), ("keep", (0, 1)))
        self.assertIs(kept_right(clock, ("keep", (1, 2), doubts)), True)
        self.assertIs(kept_right(clock, ("keep", (0, 2), doubts)), False)

    def test_never_for_hands_and_the_other_way_about(self):
        clear = made_clock(12, [(4, 0, "a"), (3, 0, "b")], False, False)
        _, _, doubts = fewest_kept(clear)
        for more in ([], [(0, 0, ((0, 1), False))], [(0, 1, ((0, 1), False))], [(0, 4, ((0, 1), False))]):
            self.assertIs(kept_right(clear, ("never", doubts + more)), False)
        doubtful = made_clock(12, [(4, 0, "a"), (2, 0, "b")], False, False)
        _, doubts = fewest_kept(doubtful)
        self.assertIs(kept_right(doubtful, ("never", doubts)), True)
        for hands in ((0,), (1,), (0, 1), ()):
            for told in (doubts, doubts[:2], doubts[:1], []):
                self.assertIs(kept_right(doubtful, ("keep", hands, told)), False)

    def test_ticks_are_taken_by_their_rests(self):
        clock = made_clock(12, [(4, 0, "a"), (3, 0, "b")], False, False)
        plain = ((0,), False)
        for far in (0, 12, -12, 12 * 10 ** 59, -12 * 10 ** 59):
            self.assertIs(kept_right(clock, ("keep", (0, 1), [(far, 3, plain), (0, 4 + far, plain)])), True)
            self.assertIs(kept_right(clock, ("keep", (0, 1), [(far, 0, plain), (0, 4, plain)])), False)
            self.assertIs(kept_right(clock, ("keep", (0, 1), [(0, 3, plain), (1 + far, 4, plain)])), False)

    def test_a_reading_of_the_clock_with_all_hands_is_none_of_fewer(self):
        clock = made_clock(12, [(4, 0, "a"), (3, 0, "b")], False, False)
        for swap in ((0, 1), (), (1,), (0, 0)):
            self.assertIs(kept_right(clock, ("keep", (0, 1), [(0, 3, (swap, False)), (0, 4, ((0,), False))])), False)
            self.assertIs(kept_right(clock, ("keep", (0, 1), [(0, 3, ((0,), False)), (0, 4, (swap, False))])), False)

    def test_other_words_and_what_is_told_of_painted_hands(self):
        for clock in self.judged_small():
            told = fewest_kept(clock)
            for word in ("paint", "found", "none", "", "never", "keep"):
                if word != told[0]:
                    self.assertIs(kept_right(clock, (word,) + told[1:]), False)
            self.assertIs(kept_right(clock, fewest_painted(clock)), False)

    def test_great_dials(self):
        draw = random.Random(225)
        for clock in great_clocks(225, 1):
            told = fewest_kept(clock)
            size = len(told[1]) if told[0] == "keep" else len(clock[1]) + 1
            clocks = kept_clocks(clock, range(1, size))
            for doubts in misfit_doubts(clocks, told[-1]):
                self.assertIs(kept_right(clock, told[:-1] + (doubts,)), False)
            for doubts in changed_doubts(draw, clocks, told[-1]):
                self.assert_judged(kept_right, slow_kept_right, clock, told[:-1] + (doubts,), shown_clear)


class JudgedPainted(Judged):
    def judged(self, clock, told):
        return self.assert_judged(painted_right, slow_painted_right, clock, told)

    def some_clocks(self):
        """Clocks of which some hands are to be painted, and some others."""
        clocks = [clock for clock in small_clocks(231, 8, 8) if fewest_painted(clock)[1] != ()]
        self.assertGreater(len([clock for clock in clocks if fewest_painted(clock)[0] == "paint"]), 10)
        return clocks + small_clocks(232, 1, 8) + [TWO_PAIRS]

    def fewer(self, clock, told):
        """The clocks of which doubts are told."""
        if told[0] == "never":
            return painted_clocks(clock, [len(clock[1])])
        return painted_clocks(clock, [len(told[1]) - 1]) if told[1] else []

    def with_doubts(self, told, doubts):
        """What is told, but with other doubts; None where a lone one can't be made of them."""
        if told[0] == "never":
            return ("never", doubts[0]) if len(doubts) == 1 else None
        return told[:2] + (doubts,)

    def test_right_ones_made_otherwise(self):
        draw = random.Random(233)
        made = 0
        for clock in self.some_clocks():
            told = fewest_painted(clock)
            for _ in range(3):
                doubts = other_doubts(draw, self.fewer(clock, told))
                self.assertTrue(self.judged(clock, self.with_doubts(told, doubts)))
                if told[0] == "paint":
                    for some in choices(clock, [len(told[1])]):
                        made += self.judged(clock, ("paint", some, doubts)) and some != told[1]
        self.assertGreater(made, 20)

    def test_wrong_doubts(self):
        draw = random.Random(234)
        wrong = 0
        for clock in self.some_clocks():
            told = fewest_painted(clock)
            clocks = self.fewer(clock, told)
            right = [told[1]] if told[0] == "never" else told[2]
            for doubts in misfit_doubts(clocks, right):
                other = self.with_doubts(told, doubts)
                self.assertTrue(other is None or painted_right(clock, other) is False, (clock, other))
            for doubts in changed_doubts(draw, clocks, right):
                wrong += not self.judged(clock, self.with_doubts(told, doubts))
        self.assertGreater(wrong, 100)

    def test_wrong_hands(self):
        wrong = 0
        for clock in self.some_clocks():
            told = fewest_painted(clock)
            hands, doubts = told[1:] if told[0] == "paint" else ((0,), [told[1]])
            for other in wrong_hands(hands):
                wrong += not self.judged(clock, ("paint", other, doubts))
                self.judged(clock, ("paint", other, []))
                fewer = painted_clocks(clock, [len(other) - 1]) if other else []
                self.judged(clock, ("paint", other, (doubts * 10)[:len(fewer)]))
        self.assertGreater(wrong, 500)

    def test_no_hands_and_one_hand(self):
        clear = made_clock(12, [(1, 0, "a"), (5, 0, "b")], False, False)
        self.assertIs(painted_right(clear, ("paint", (), [])), True)
        doubt = (2, 10, ((1, 0), False))
        for hands, doubts in (
            ((), [doubt]), ((0,), []), ((1,), []), ((0,), [doubt]), ((0,), [(0, 1, ((0, 1), False))]), ((0, 1), []),
        ):
            self.assertIs(painted_right(clear, ("paint", hands, doubts)), False)
        alike = made_clock(12, [(1, 0, "a"), (-1, 0, "a")], False, False)
        for hands in ((0,), (1,)):
            self.assertIs(painted_right(alike, ("paint", hands, [doubt])), True)
            self.assertIs(painted_right(alike, ("paint", hands, [])), False)
            self.assertIs(painted_right(alike, ("paint", hands, [doubt] * 2)), False)
            self.assertIs(painted_right(alike, ("paint", hands, [(2, 10, ((0, 1), False))])), False)
        for hands in ((), (0, 1), (0, 0), (-1,), (2,), (1, 0)):
            for doubts in ([], [doubt], [doubt] * 2):
                self.assertIs(painted_right(alike, ("paint", hands, doubts)), False)

    def test_a_doubt_is_one_of_the_painted_clock(self):
        word, hands, doubts = fewest_painted(TWO_PAIRS)
        self.assertIs(painted_right(TWO_PAIRS, (word, hands, doubts)), True)
        # With hand 0 painted the first pair is no longer swapped, so this reading shows nothing there.
        swapped = ((1, 0, 2, 3), False)
        self.assertIs(painted_right(TWO_PAIRS, (word, hands, [(1, 11, swapped)] + doubts[1:])), False)
        self.assertIs(painted_right(TWO_PAIRS, (word, hands, doubts[:2] + [(1, 11, swapped)] + doubts[3:])), True)

    def test_never_for_hands_and_the_other_way_about(self):
        alike = made_clock(12, [(1, 0, "a"), (-1, 0, "a")], False, False)
        for doubt in ((2, 10, ((1, 0), False)), (2, 10, ((0, 1), False)), (2, 2, ((0, 1), False))):
            self.assertIs(painted_right(alike, ("never", doubt)), False)
        coarsest = made_clock(12, [(2, 0, "a"), (4, 0, "a")], False, False)
        doubt = (0, 6, ((0, 1), False))
        self.assertIs(painted_right(coarsest, ("never", doubt)), True)
        self.assertIs(painted_right(coarsest, ("never", (0, 6, ((1, 0), False)))), False)
        self.assertIs(painted_right(coarsest, ("never", (0, 6, ((0, 1), True)))), False)
        for hands in ((), (0,), (1,), (0, 1)):
            for doubts in ([], [doubt], [doubt] * 2):
                self.assertIs(painted_right(coarsest, ("paint", hands, doubts)), False)

    def test_ticks_are_taken_by_their_rests(self):
        clock = made_clock(12, [(1, 0, "a"), (-1, 0, "a")], False, False)
        coarsest = made_clock(12, [(2, 0, "a"), (4, 0, "a")], False, False)
        for far in (0, 12, -12, 12 * 10 ** 59, -12 * 10 ** 59):
            self.assertIs(painted_right(clock, ("paint", (0,), [(2 + far, 10, ((1, 0), False))])), True)
            self.assertIs(painted_right(clock, ("paint", (0,), [(6 + far, 6, ((1, 0), False))])), False)
            self.assertIs(painted_right(coarsest, ("never", (1, 7 + far, ((0, 1), False)))), True)
            self.assertIs(painted_right(coarsest, ("never", (1, 1 + far, ((0, 1), False)))), False)

    def test_other_words_and_what_is_told_of_kept_hands(self):
        for clock in self.some_clocks():
            told = fewest_painted(clock)
            for word in ("keep", "found", "none", "", "never", "paint"):
                if word != told[0]:
                    self.assertIs(painted_right(clock, (word,) + told[1:]), False)
            self.assertIs(painted_right(clock, fewest_kept(clock)), False)

    def test_great_dials(self):
        draw = random.Random(235)
        for clock in great_clocks(235, 2):
            told = fewest_painted(clock)
            clocks = self.fewer(clock, told)
            right = [told[1]] if told[0] == "never" else told[2]
            for doubts in misfit_doubts(clocks, right):
                other = self.with_doubts(told, doubts)
                self.assertTrue(other is None or painted_right(clock, other) is False)
            for doubts in changed_doubts(draw, clocks, right):
                other = self.with_doubts(told, doubts)
                self.assert_judged(painted_right, slow_painted_right, clock, other, shown_clear)


class LeftAlone(unittest.TestCase):
    def test_nothing_is_changed_and_answered_alike(self):
        for clock in small_clocks(241, 1) + great_clocks(241, 1):
            for tells, judge in ((fewest_kept, kept_right), (fewest_painted, painted_right)):
                told = tells(clock)
                before = copy.deepcopy((clock, told))
                self.assertIs(judge(clock, told), True)
                self.assertIs(judge(clock, told), True)
                self.assertEqual((clock, told), before)
                self.assertEqual(tells(clock), told)

    def test_told_lists_are_new(self):
        clock = made_clock(12, [(4, 0, "a"), (3, 0, "b")], False, False)
        for clock in (clock, made_clock(12, [(4, 0, "a"), (-4, 0, "a"), (2, 0, "b")], False, False)):
            told = fewest_kept(clock)
            again = copy.deepcopy(told)
            told[-1].append("more")
            self.assertEqual(fewest_kept(clock), again)
        for clock in (TWO_PAIRS, made_clock(12, [(1, 0, "a")], False, False)):
            told = fewest_painted(clock)
            again = copy.deepcopy(told)
            told[-1].append("more")
            self.assertEqual(fewest_painted(clock), again)

    def test_hands_that_are_told_can_be_handed_in(self):
        self.assertTrue(slow_clear(painted_hands(TWO_PAIRS, fewest_painted(TWO_PAIRS)[1])))
        clock = made_clock(12, [(4, 0, "a"), (3, 0, "b"), (0, 0, "a")], False, False)
        self.assertTrue(slow_clear(kept_hands(clock, fewest_kept(clock)[1])))


if __name__ == "__main__":
    unittest.main()

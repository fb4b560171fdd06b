import random
import unittest

from dialdoubt.clocks import (
    kept_hands, made_clock, mark_of, painted_hands, picture_of, same_picture, with_hand,
)
from dialdoubt.errors import BadClock, DoubtError, NoHand, TooAlike
from tests.helper import GREATEST, slow_are_one, slow_picture, slow_same, small_clocks


def looking(looks):
    """Hands with these looks."""
    return [(at + 1, at, look) for at, look in enumerate(looks)]


class Refusing(unittest.TestCase):
    def assert_refused(self, refusal, deed, *told):
        with self.assertRaises(DoubtError) as caught:
            deed(*told)
        # The very class, so that none is one of the others.
        self.assertIs(type(caught.exception), refusal)


class Made(Refusing):
    def test_form(self):
        clock = made_clock(12, [(1, 0, "a"), (5, 3, "b")], True, False)
        self.assertEqual(clock, (12, ((1, 0, "a"), (5, 3, "b")), True, False))
        self.assertIs(type(clock), tuple)
        self.assertIs(type(clock[1]), tuple)
        self.assertEqual([type(hand) for hand in clock[1]], [tuple, tuple])
        self.assertIs(clock[2], True)
        self.assertIs(clock[3], False)

    def test_blank_and_mirror_are_kept_apart(self):
        for blank in (False, True):
            for mirror in (False, True):
                clock = made_clock(9, [(1, 2, "z")], blank, mirror)
                self.assertIs(clock[2], blank)
                self.assertIs(clock[3], mirror)

    def test_list_and_tuple_of_hands(self):
        hands = [(1, 2, "a"), (3, 4, "b")]
        self.assertEqual(made_clock(7, hands, False, False), made_clock(7, tuple(hands), False, False))

    def test_bounds_of_many(self):
        for many in (2, 3, GREATEST - 1, GREATEST):
            self.assertEqual(made_clock(many, [(1, 0, "a")], False, False)[0], many)
        for many in (1, 0, -1, -2, -12, -GREATEST, GREATEST + 1, GREATEST * 10):
            self.assert_refused(BadClock, made_clock, many, [(1, 0, "a")], False, False)

    def test_gears_and_starts_by_their_rests(self):
        clock = made_clock(10, [(-1, 23, "a"), (10, -10, "b"), (-27, 9, "c")], False, False)
        self.assertEqual(clock[1], ((9, 3, "a"), (0, 0, "b"), (3, 9, "c")))

    def test_gears_and_starts_of_120_figures(self):
        long = int("123456789012" * 10)
        for many in (2, 7, GREATEST - 3, GREATEST):
            for gear in (long, -long, 10 ** 120 - 1, 1 - 10 ** 120):
                clock = made_clock(many, [(gear, -gear, "k")], False, True)
                told_gear, told_start, look = clock[1][0]
                self.assertTrue(0 <= told_gear < many and 0 <= told_start < many)
                self.assertEqual((gear - told_gear) % many, 0)
                self.assertEqual((gear + told_start) % many, 0)
                self.assertEqual(look, "k")

    def test_how_many_hands(self):
        for looks in ("a", "ab", "abc", "abcd", "abcde"):
            for kind in (list, tuple):
                clock = made_clock(12, kind(looking(looks)), True, True)
                self.assertEqual(len(clock[1]), len(looks))
        for looks in ("", "abcdef", "abcdefg", "aaaaaa"):
            for kind in (list, tuple):
                self.assert_refused(BadClock, made_clock, 12, kind(looking(looks)), True, True)

    def test_looks(self):
        for look in "abcdefghijklmnopqrstuvwxyz":
            self.assertEqual(made_clock(5, [(1, 1, look)], False, False)[1][0][2], look)
        wrong = ["", "ab", "abc", "aa", "A", "Z", "0", "9", " ", "-", "_", "`", "{", "%", "\n", "a\n", " a", "\u00e4"]
        for look in wrong:
            self.assert_refused(BadClock, made_clock, 5, [(1, 1, look)], False, False)
            self.assert_refused(BadClock, made_clock, 5, [(1, 1, "a"), (1, 1, look)], False, True)

    def test_six_readings_stand(self):
        for looks in ("aaa", "aaab", "abaca", "aabb", "aabbc", "abab", "abcde", "aab"):
            self.assertEqual(len(made_clock(12, looking(looks), False, False)[1]), len(looks))
        for looks in ("aa", "aab", "abca", "abcda", "abcde"):
            self.assertEqual(len(made_clock(12, looking(looks), True, True)[1]), len(looks))

    def test_more_readings_are_refused(self):
        for blank in (False, True):
            for looks in ("aaaa", "aaaab", "aaaaa", "aaabb", "ababa"):
                self.assert_refused(TooAlike, made_clock, 12, looking(looks), blank, False)
            for looks in ("aaa", "aaab", "aabb", "aabbc", "abcba", "aaaa"):
                self.assert_refused(TooAlike, made_clock, 12, looking(looks), blank, True)

    def test_bad_clock_goes_first(self):
        self.assert_refused(BadClock, made_clock, 1, looking("aaaa"), False, False)
        self.assert_refused(BadClock, made_clock, GREATEST + 1, looking("aaa"), False, True)
        self.assert_refused(BadClock, made_clock, 12, looking("aaaaaa"), False, False)
        self.assert_refused(BadClock, made_clock, 12, looking("aaaa") + [(1, 1, "A")], False, False)
        self.assert_refused(BadClock, made_clock, 12, looking(["bb"] * 4), False, True)

    def test_handed_in_is_neither_changed_nor_kept(self):
        hands = [(1, -2, "a"), (30, 4, "b")]
        clock = made_clock(12, hands, False, False)
        self.assertEqual(hands, [(1, -2, "a"), (30, 4, "b")])
        hands[0] = (5, 5, "c")
        hands.append((7, 7, "d"))
        self.assertEqual(clock, (12, ((1, 10, "a"), (6, 4, "b")), False, False))

    def test_told_clock_is_taken_again(self):
        clock = made_clock(12, [(1, -2, "a"), (30, 4, "b")], False, True)
        self.assertEqual(made_clock(*clock), clock)


class Marks(Refusing):
    def test_marks(self):
        clock = made_clock(12, [(1, 0, "a"), (5, 7, "b"), (0, 11, "c")], False, False)
        self.assertEqual([mark_of(clock, 0, tick) for tick in (0, 1, 11, 12, 13)], [0, 1, 11, 0, 1])
        self.assertEqual([mark_of(clock, 1, tick) for tick in (0, 1, 2, -1, -2)], [7, 0, 5, 2, 9])
        self.assertEqual([mark_of(clock, 2, tick) for tick in (0, 1, -5)], [11, 11, 11])

    def test_ticks_of_either_sign_and_beyond_a_round(self):
        for clock in small_clocks(1, 1):
            many, hands, _, _ = clock
            for tick in range(many):
                for hand, (gear, start, _) in enumerate(hands):
                    due = start
                    for _ in range(tick):
                        due = due + gear - many if due + gear >= many else due + gear
                    for far in (0, many, -many, 5 * many, -7 * many, many * 10 ** 58, -many * 10 ** 58):
                        self.assertEqual(mark_of(clock, hand, tick + far), due)

    def test_great_dial(self):
        clock = made_clock(GREATEST, [(GREATEST - 1, 5, "a")], False, False)
        self.assertEqual(mark_of(clock, 0, 6), GREATEST - 1)
        self.assertEqual(mark_of(clock, 0, GREATEST), 5)
        self.assertEqual(mark_of(clock, 0, -GREATEST + 1), 4)

    def test_no_hand(self):
        clock = made_clock(12, [(1, 0, "a"), (5, 7, "b")], False, False)
        for hand in (-1, -2, -3, 2, 3, GREATEST, -GREATEST):
            self.assert_refused(NoHand, mark_of, clock, hand, 3)


class Pictures(unittest.TestCase):
    def test_picture(self):
        clock = made_clock(12, [(1, 0, "b"), (5, 7, "a"), (2, 1, "b"), (0, 11, "a")], True, False)
        told = picture_of(clock, 1)
        self.assertEqual(told, [("a", 0), ("a", 11), ("b", 1), ("b", 3)])
        self.assertIs(type(told), list)
        self.assertEqual({type(pair) for pair in told}, {tuple})

    def test_a_pair_for_each_hand_also_of_one_mark(self):
        clock = made_clock(6, [(1, 0, "a"), (1, 0, "a"), (1, 0, "b")], False, False)
        self.assertEqual(picture_of(clock, 4), [("a", 4), ("a", 4), ("b", 4)])

    def test_pictures_of_all_ticks(self):
        for clock in small_clocks(2, 2):
            many = clock[0]
            for tick in range(-many, 2 * many):
                self.assertEqual(picture_of(clock, tick), slow_picture(clock, tick))

    def test_told_picture_is_new(self):
        clock = made_clock(12, [(1, 0, "b"), (5, 7, "a")], False, False)
        told = picture_of(clock, 3)
        told.clear()
        self.assertEqual(picture_of(clock, 3), [("a", 10), ("b", 3)])
        self.assertIsNot(picture_of(clock, 3), picture_of(clock, 3))

    def test_one_picture_against_all_turns_and_signs(self):
        for clock in small_clocks(3, 6):
            many = clock[0]
            for one in range(many):
                for other in range(many):
                    told = same_picture(clock, one, other)
                    self.assertIs(told, slow_same(clock, one, other), (clock, one, other))
                    self.assertIs(same_picture(clock, other, one), told)

    def test_ticks_are_taken_by_their_rests(self):
        for clock in small_clocks(4, 1):
            many = clock[0]
            for one in range(many):
                for far in (many, -many, 10 ** 50 * many):
                    self.assertIs(same_picture(clock, one, one + far), True)
                    self.assertIs(same_picture(clock, one + far, 1 - far), slow_same(clock, one, 1))

    def test_plain_dial_is_not_turned(self):
        hands = [(1, 0, "a"), (1, 3, "b")]
        self.assertIs(same_picture(made_clock(12, hands, False, False), 0, 1), False)
        self.assertIs(same_picture(made_clock(12, hands, True, False), 0, 1), True)

    def test_alike_hands_are_taken_for_each_other(self):
        alike = made_clock(12, [(1, 0, "a"), (-1, 0, "a")], False, False)
        unlike = made_clock(12, [(1, 0, "a"), (-1, 0, "b")], False, False)
        self.assertIs(same_picture(alike, 2, 10), True)
        self.assertIs(same_picture(unlike, 2, 10), False)

    def test_mirror(self):
        hands = [(1, 0, "a")]
        self.assertIs(same_picture(made_clock(12, hands, False, True), 2, 10), True)
        self.assertIs(same_picture(made_clock(12, hands, False, False), 2, 10), False)
        self.assertIs(same_picture(made_clock(12, hands, False, True), 2, 9), False)

    def test_mirror_and_blank_together(self):
        hands = [(1, 0, "a"), (3, 0, "b")]
        both = made_clock(12, hands, True, True)
        self.assertIs(same_picture(both, 1, 5), True)
        self.assertIs(same_picture(both, 1, 2), False)
        self.assertIs(same_picture(made_clock(12, hands, True, False), 1, 5), False)
        self.assertIs(same_picture(made_clock(12, hands, False, True), 1, 5), False)

    def test_great_dial(self):
        half = GREATEST // 2
        clock = made_clock(GREATEST, [(2, 0, "a"), (4, 1, "b")], True, False)
        self.assertIs(same_picture(clock, 3, 3 + half), True)
        self.assertIs(same_picture(clock, 3, 4 + half), False)
        mirrored = made_clock(GREATEST, [(1, 0, "a"), (2, 0, "a"), (7, 0, "b")], True, True)
        self.assertIs(same_picture(mirrored, 17, -17), True)
        self.assertIs(same_picture(mirrored, 17, 16), False)

    def test_slow_way_is_symmetric(self):
        clock = made_clock(7, [(1, 0, "a"), (3, 2, "a")], True, True)
        one, other = slow_picture(clock, 2), slow_picture(clock, 4)
        self.assertEqual(slow_are_one(clock, one, other), slow_are_one(clock, other, one))


class Kept(Refusing):
    clock = made_clock(12, [(1, 0, "a"), (5, 7, "b"), (2, 3, "a"), (4, 4, "c")], True, False)

    def test_kept(self):
        hands = self.clock[1]
        for kind in (list, tuple):
            self.assertEqual(kept_hands(self.clock, kind((0, 2))), (12, (hands[0], hands[2]), True, False))
            self.assertEqual(kept_hands(self.clock, kind((3,))), (12, (hands[3],), True, False))
            self.assertEqual(kept_hands(self.clock, kind((0, 1, 2, 3))), self.clock)

    def test_all_choices_of_small_clocks(self):
        for clock in small_clocks(5, 1):
            many, hands, blank, mirror = clock
            for bits in range(1, 1 << len(hands)):
                some = [hand for hand in range(len(hands)) if bits >> hand & 1]
                told = kept_hands(clock, some)
                self.assertEqual(told, (many, tuple(hands[hand] for hand in some), blank, mirror))

    def test_refused(self):
        wrong = [(), (1, 0), (0, 0), (0, 2, 1), (0, 2, 2), (-1,), (4,), (0, 4), (-1, 0), (-4, 1), (GREATEST,), (2, -1)]
        for some in wrong:
            self.assert_refused(NoHand, kept_hands, self.clock, some)
            self.assert_refused(NoHand, kept_hands, self.clock, list(some))

    def test_handed_in_is_not_changed(self):
        some = [1, 3]
        kept_hands(self.clock, some)
        painted_hands(self.clock, some)
        self.assertEqual(some, [1, 3])


class Painted(Refusing):
    clock = Kept.clock

    def looks_of(self, clock):
        return "".join(look for gear, start, look in clock[1])

    def test_painted(self):
        for kind in (list, tuple):
            told = painted_hands(self.clock, kind((0, 3)))
            self.assertEqual(told, (12, ((1, 0, "d"), (5, 7, "b"), (2, 3, "a"), (4, 4, "e")), True, False))

    def test_none_painted(self):
        self.assertEqual(painted_hands(self.clock, ()), self.clock)
        self.assertEqual(painted_hands(self.clock, []), self.clock)

    def test_least_letter_neither_old_nor_new(self):
        clock = made_clock(9, looking("cax"), False, False)
        self.assertEqual(self.looks_of(painted_hands(clock, (0,))), "bax")
        self.assertEqual(self.looks_of(painted_hands(clock, (1,))), "cbx")
        self.assertEqual(self.looks_of(painted_hands(clock, (0, 1))), "bdx")
        self.assertEqual(self.looks_of(painted_hands(clock, (0, 1, 2))), "bde")
        five = made_clock(9, looking("abcde"), False, False)
        self.assertEqual(self.looks_of(painted_hands(five, (0, 1, 2, 3, 4))), "fghij")
        late = made_clock(9, looking("zzz"), False, False)
        self.assertEqual(self.looks_of(painted_hands(late, (1, 2))), "zab")

    def test_all_choices_of_small_clocks(self):
        for clock in small_clocks(6, 1):
            many, hands, blank, mirror = clock
            for bits in range(1 << len(hands)):
                some = [hand for hand in range(len(hands)) if bits >> hand & 1]
                told = painted_hands(clock, some)
                self.assertEqual((told[0], told[2], told[3]), (many, blank, mirror))
                self.assertEqual([hand[:2] for hand in told[1]], [hand[:2] for hand in hands])
                seen = set(self.looks_of(clock))
                for hand in range(len(hands)):
                    if hand not in some:
                        self.assertEqual(told[1][hand], hands[hand])
                        continue
                    due = min(set("abcdefghijklmnopqrstuvwxyz") - seen)
                    self.assertEqual(told[1][hand][2], due)
                    self.assertEqual(self.looks_of(told).count(due), 1)
                    seen.add(due)

    def test_refused(self):
        wrong = [(1, 0), (0, 0), (0, 2, 1), (0, 2, 2), (-1,), (4,), (0, 4), (-1, 0), (GREATEST,), (-GREATEST,), (2, -1)]
        for some in wrong:
            self.assert_refused(NoHand, painted_hands, self.clock, some)
            self.assert_refused(NoHand, painted_hands, self.clock, list(some))


class WithHand(Refusing):
    clock = Kept.clock

    def test_with_hand(self):
        told = with_hand(self.clock, 1, 6, 8)
        self.assertEqual(told, (12, ((1, 0, "a"), (6, 8, "b"), (2, 3, "a"), (4, 4, "c")), True, False))
        self.assertEqual(self.clock[1][1], (5, 7, "b"))

    def test_each_hand_by_rests(self):
        draw = random.Random(7)
        for clock in small_clocks(7, 1):
            many, hands, blank, mirror = clock
            for hand in range(len(hands)):
                gear = draw.randint(-10 ** 120 + 1, 10 ** 120 - 1)
                start = draw.randint(-100, 100)
                due = list(hands)
                due[hand] = (gear % many, start % many, hands[hand][2])
                self.assertEqual(with_hand(clock, hand, gear, start), (many, tuple(due), blank, mirror))

    def test_no_hand(self):
        for hand in (-1, -4, -5, 4, 5, GREATEST, -GREATEST):
            self.assert_refused(NoHand, with_hand, self.clock, hand, 1, 1)


class Alike(unittest.TestCase):
    def test_same_question_same_answer(self):
        for clock in small_clocks(8, 1):
            hands = tuple(range(len(clock[1])))
            for ask in (
                lambda: picture_of(clock, 5), lambda: same_picture(clock, 1, 4), lambda: mark_of(clock, 0, 3),
                lambda: kept_hands(clock, hands), lambda: painted_hands(clock, hands),
                lambda: with_hand(clock, 0, 3, 4),
            ):
                self.assertEqual(ask(), ask())


if __name__ == "__main__":
    unittest.main()

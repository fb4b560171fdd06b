import copy
import itertools
import math
import random
import unittest

from dialdoubt.clocks import made_clock
from dialdoubt.counts import clear_below, clear_by, clear_many, doubtful_by, next_clear, number_of
from dialdoubt.errors import Coarse, NoSuch
from dialdoubt.rivals import rivals_of
from tests.helper import (
    GREAT_DIALS, GREATEST, coarse, fine, great_clocks, slow_readings, slow_rivals, slow_rows, slow_step, small_clocks,
)

OPPOSED = made_clock(12, [(1, 0, "a"), (-1, 0, "a")], False, False)


def split_ticks(clock):
    """The clear and the doubtful ticks of a small clock."""
    rivals = slow_rivals(clock)
    clear = [tick for tick in range(clock[0]) if not rivals[tick]]
    return clear, [tick for tick in range(clock[0]) if rivals[tick]]


def met_by_part(part, rows):
    """The pairs (tick, other) with the rows' rests by a part of the dial alike, gone through."""
    others = {}
    for other in range(part):
        others.setdefault(tuple(a * other % part for a, b, c in rows), []).append(other)
    return [(t, o) for t in range(part) for o in others.get(tuple((b * t + c) % part for a, b, c in rows), [])]


def clear_by_parts(parts, clock):
    """How many ticks of a clock that is not coarse are clear, by counts in the parts of its dial."""
    choices = []
    for reading in slow_readings(clock)[1:]:
        met = [met_by_part(part, slow_rows(clock, reading)) for part in parts]
        taken = [{t for t, o in pairs} for pairs in met]
        fixed = [{t for t, o in pairs if t == o} for pairs in met]
        choices.append(((1, [set(range(part)) for part in parts]), (-1, taken), (1, fixed)))
    told = 0
    for choice in itertools.product(*choices):
        sign = math.prod(sign for sign, sets in choice)
        told += sign * math.prod(
            len(set(range(part)).intersection(*(sets[at] for _, sets in choice))) for at, part in enumerate(parts)
        )
    return told


class Counted(unittest.TestCase):
    def test_some(self):
        self.assertEqual(clear_many(OPPOSED), 2)
        self.assertEqual([clear_below(OPPOSED, bound) for bound in (0, 1, 6, 7, 12)], [0, 1, 1, 2, 2])
        self.assertEqual([clear_by(OPPOSED, number) for number in (0, 1)], [0, 6])
        self.assertEqual([doubtful_by(OPPOSED, number) for number in (0, 4, 5, 9)], [1, 5, 7, 11])
        self.assertEqual(number_of(OPPOSED, 6), (True, 1))
        self.assertEqual(number_of(OPPOSED, 7), (False, 5))
        self.assertEqual([next_clear(OPPOSED, tick) for tick in (0, 1, 6, 7, 11, 12, -1)], [0, 5, 0, 5, 1, 0, 1])

    def test_small_clocks_against_all_ticks(self):
        seen = [0, 0, 0]
        for clock in fine(small_clocks(71, 8, 16)):
            many = clock[0]
            clear, doubtful = split_ticks(clock)
            seen[0 if not clear else 1 if not doubtful else 2] += 1
            self.assertEqual(clear_many(clock), len(clear), clock)
            for bound in range(many + 1):
                self.assertEqual(clear_below(clock, bound), len([tick for tick in clear if tick < bound]), clock)
            self.assertEqual([clear_by(clock, number) for number in range(len(clear))], clear)
            self.assertEqual([doubtful_by(clock, number) for number in range(len(doubtful))], doubtful)
            for tick in range(many):
                self.assert_numbered(clock, tick, clear, doubtful)
                waits = [wait for wait in range(many) if (tick + wait) % many in clear]
                self.assertEqual(next_clear(clock, tick), waits[0] if waits else None)
        # Clocks without a clear tick, without a doubtful one, and with both were among them.
        self.assertTrue(min(seen) >= 5, seen)

    def assert_numbered(self, clock, tick, clear, doubtful):
        told = number_of(clock, tick)
        self.assertIs(type(told), tuple)
        self.assertIs(type(told[0]), bool)
        due = (True, clear.index(tick)) if tick in clear else (False, doubtful.index(tick))
        self.assertEqual(told, due)

    def test_ticks_of_either_sign_and_beyond_a_round(self):
        for clock in fine(small_clocks(72, 1)):
            many = clock[0]
            for tick in (-1, -many, many, 3 * many + 1, 10 ** 61 - 1, 1 - 10 ** 61):
                self.assertEqual(number_of(clock, tick), number_of(clock, tick % many))
                self.assertEqual(next_clear(clock, tick), next_clear(clock, tick % many))

    def test_no_such_number(self):
        for clock in fine(small_clocks(73, 2)):
            clear, doubtful = split_ticks(clock)
            for ask, ticks in ((clear_by, clear), (doubtful_by, doubtful)):
                for number in (-1, -len(ticks), len(ticks), len(ticks) + 1, 10 ** 61 - 1, 1 - 10 ** 61):
                    if not 0 <= number < len(ticks):
                        with self.assertRaises(NoSuch):
                            ask(clock, number)

    def test_none_clear(self):
        none = [clock for clock in fine(small_clocks(74, 8)) if not split_ticks(clock)[0]]
        self.assertGreater(len(none), 3)
        for clock in none:
            self.assertEqual(clear_many(clock), 0)
            self.assertEqual(clear_below(clock, clock[0]), 0)
            self.assertEqual(doubtful_by(clock, clock[0] - 1), clock[0] - 1)
            for tick in range(clock[0]):
                self.assertIsNone(next_clear(clock, tick))
                self.assertEqual(number_of(clock, tick), (False, tick))
            with self.assertRaises(NoSuch):
                clear_by(clock, 0)

    def test_none_doubtful(self):
        for many in (2, 12, GREATEST):
            clock = made_clock(many, [(1, 0, "a"), (3, 1, "b")], False, False)
            self.assertEqual(clear_many(clock), many)
            self.assertEqual([clear_below(clock, bound) for bound in (0, 1, many)], [0, 1, many])
            for tick in (0, 1, many // 2, many - 1):
                self.assertEqual(clear_by(clock, tick), tick)
                self.assertEqual(number_of(clock, tick), (True, tick))
                self.assertEqual(next_clear(clock, tick), 0)
            with self.assertRaises(NoSuch):
                doubtful_by(clock, 0)

    def test_coarse_first(self):
        asked = (
            clear_many, lambda clock: clear_below(clock, 0), lambda clock: clear_by(clock, -1),
            lambda clock: doubtful_by(clock, clock[0]), lambda clock: number_of(clock, -5),
            lambda clock: next_clear(clock, 10 ** 60), lambda clock: clear_by(clock, 0),
            lambda clock: doubtful_by(clock, 0),
        )
        clocks = coarse(small_clocks(75, 1)) + [made_clock(GREATEST, [(1, 0, "a")], True, True)]
        for clock in clocks:
            for ask in asked:
                with self.assertRaises(Coarse) as caught:
                    ask(clock)
                self.assertEqual(caught.exception.step, slow_step(clock))

    def test_answered_alike(self):
        for clock in fine(small_clocks(76, 1)):
            before = copy.deepcopy(clock)
            self.assertEqual(clear_many(clock), clear_many(clock))
            self.assertEqual(number_of(clock, 3), number_of(clock, 3))
            self.assertEqual(next_clear(clock, 3), next_clear(clock, 3))
            self.assertEqual(clock, before)


class CountedOnGreatDials(unittest.TestCase):
    def test_greatest_dial(self):
        clock = made_clock(GREATEST, [(1, 5, "a"), (-1, -5, "a")], False, False)
        half = GREATEST // 2
        self.assertEqual(clear_many(clock), 2)
        self.assertEqual([clear_by(clock, 0), clear_by(clock, 1)], [half - 5, GREATEST - 5])
        self.assertEqual(doubtful_by(clock, half), half + 1)
        self.assertEqual(number_of(clock, -5), (True, 1))
        self.assertEqual(number_of(clock, -4), (False, GREATEST - 6))
        self.assertEqual(next_clear(clock, -4), half - 1)
        self.assertEqual(next_clear(clock, half - 4), half - 1)

    def test_against_counts_in_the_parts_of_the_dial(self):
        parts = GREAT_DIALS[1]
        kinds = []
        for clock in fine(great_clocks(81, 8)):
            if clock[0] == math.prod(parts):
                due = clear_by_parts(parts, clock)
                self.assertEqual(clear_many(clock), due, clock)
                kinds.append(0 < due < clock[0])
        self.assertTrue(kinds.count(True) > 10 and kinds.count(False) > 10, kinds)

    def test_come_back_by_their_numbers(self):
        draw = random.Random(82)
        for clock in fine(great_clocks(82, 3)):
            many = clock[0]
            clear = clear_many(clock)
            for ask, in_all, word in ((clear_by, clear, True), (doubtful_by, many - clear, False)):
                with self.assertRaises(NoSuch):
                    ask(clock, in_all)
                with self.assertRaises(NoSuch):
                    ask(clock, -1)
                if in_all > 0:
                    for number in {0, in_all - 1, draw.randrange(in_all)}:
                        tick = ask(clock, number)
                        self.assertTrue(0 <= tick < many)
                        self.assertEqual(rivals_of(clock, tick) == [], word)
                        self.assertEqual(number_of(clock, tick), (word, number))
                        self.assertEqual(number_of(clock, tick - 3 * many), (word, number))

    def test_rises_by_one_just_at_the_clear_ticks(self):
        draw = random.Random(83)
        risen = []
        for clock in fine(great_clocks(83, 3)):
            many = clock[0]
            ticks = [0, many - 1, draw.randrange(many)]
            clear = clear_many(clock)
            if 0 < clear < many:
                ticks += [clear_by(clock, draw.randrange(clear)), doubtful_by(clock, draw.randrange(many - clear))]
            for tick in ticks:
                rise = clear_below(clock, tick + 1) - clear_below(clock, tick)
                self.assertEqual(rise, 1 if rivals_of(clock, tick) == [] else 0)
                risen.append(rise)
            self.assertEqual(clear_below(clock, 0), 0)
            self.assertEqual(clear_below(clock, many), clear)
        self.assertTrue(risen.count(0) > 50 and risen.count(1) > 50)

    def test_next_clear(self):
        draw = random.Random(84)
        waited = 0
        for clock in fine(great_clocks(84, 3)):
            many = clock[0]
            clear = clear_many(clock)
            ticks = [0, many - 1, draw.randrange(many)]
            if clear > 0:
                # Round again behind the last one, and from one on to itself.
                last = clear_by(clock, clear - 1)
                ticks += [last, last + 1]
            for tick in ticks:
                wait = next_clear(clock, tick)
                if clear == 0:
                    self.assertIsNone(wait)
                    continue
                self.assertTrue(0 <= wait < many)
                self.assertEqual(rivals_of(clock, tick + wait), [])
                self.assert_none_between(clock, tick % many, wait)
                waited += wait > 0
        self.assertGreater(waited, 50)

    def assert_none_between(self, clock, tick, wait):
        end = tick + wait
        between = clear_below(clock, min(end, clock[0])) - clear_below(clock, tick)
        self.assertEqual(between + clear_below(clock, max(end - clock[0], 0)), 0)


if __name__ == "__main__":
    unittest.main()

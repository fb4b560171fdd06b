import math
import random
import unittest

from dialdoubt.rests import all_meeting, count_below, joined_of, meeting_of, weights_of
from tests.helper import GREATEST


class Meeting(unittest.TestCase):
    def assert_meeting(self, many, factor, due):
        """Looks at either form as the document words it; for great dials, too."""
        told = meeting_of(many, factor, due)
        self.assertIs(type(told), tuple)
        if told[0] == "none":
            word, v = told
            self.assertEqual(v * factor % many, 0, (many, factor, due))
            self.assertNotEqual(v * due % many, 0, (many, factor, due))
            return told
        word, first, step = told
        self.assertEqual(word, "all")
        self.assertTrue(step >= 1 and many % step == 0, (many, factor, due))
        self.assertTrue(0 <= first < step, (many, factor, due))
        self.assertEqual((factor * first - due) % many, 0)
        self.assertEqual(factor * step % many, 0)
        # No lesser step does: the numbers x with factor * x of rest 0 are the multiples of many // gcd.
        self.assertEqual(step, many // math.gcd(many, factor))
        return told

    def test_small_dials_against_all_numbers(self):
        for many in range(2, 14):
            for factor in range(-many - 2, many + 3):
                for due in range(-many - 2, many + 3):
                    told = self.assert_meeting(many, factor, due)
                    met = [x for x in range(many) if (factor * x - due) % many == 0]
                    if told[0] == "all":
                        self.assertEqual(met, list(range(told[1], many, told[2])))
                    else:
                        self.assertEqual(met, [])

    def test_nought(self):
        self.assertEqual(meeting_of(12, 0, 0), ("all", 0, 1))
        self.assertEqual(meeting_of(12, 24, -36), ("all", 0, 1))
        self.assertEqual(meeting_of(12, 5, 0), ("all", 0, 12))
        self.assertEqual(self.assert_meeting(12, 0, 5)[0], "none")

    def test_some(self):
        self.assertEqual(meeting_of(12, 8, 4), ("all", 2, 3))
        self.assertEqual(meeting_of(12, -1, 5), ("all", 7, 12))
        self.assertEqual(meeting_of(12, 5, -1), ("all", 7, 12))
        self.assertEqual(self.assert_meeting(12, 8, 3)[0], "none")

    def test_great_dials(self):
        draw = random.Random(11)
        words = []
        for many in (GREATEST, GREATEST - 1, 2 ** 199, 3 ** 125, 2 ** 60 * 3 ** 40 * 7 ** 20, 10 ** 59 + 19):
            for _ in range(60):
                share = draw.choice([1, 2, 4, 12, 2 ** 30, 3 ** 20, 10 ** 29])
                factor = share * draw.randint(-GREATEST // share, GREATEST // share)
                due = draw.choice([1, share]) * draw.randint(-10 ** 30, 10 ** 30)
                words.append(self.assert_meeting(many, factor, due)[0])
        self.assertTrue(words.count("all") > 50 and words.count("none") > 50)
        self.assert_meeting(GREATEST, -GREATEST, GREATEST)
        self.assert_meeting(GREATEST, GREATEST - 1, -GREATEST + 1)


class AllMeeting(unittest.TestCase):
    def assert_met(self, many, factors, dues):
        told = all_meeting(many, factors, dues)
        if told[0] == "none":
            self.assertEqual(len(told[1]), len(factors))
            self.assertEqual(sum(m * factor for m, factor in zip(told[1], factors)) % many, 0)
            self.assertNotEqual(sum(m * due for m, due in zip(told[1], dues)) % many, 0)
        else:
            word, first, step = told
            self.assertTrue(word == "all" and 0 <= first < step and many % step == 0)
            self.assertEqual(step, many // math.gcd(many, *factors))
            self.assertTrue(all((factor * first - due) % many == 0 for factor, due in zip(factors, dues)))
        return told

    def test_small_dials_against_all_numbers(self):
        draw = random.Random(18)
        words = []
        for _ in range(2000):
            many = draw.randint(2, 24)
            factors = [draw.randrange(many) * draw.choice((1, 2, 3)) % many for _ in range(draw.randint(1, 4))]
            x = draw.randrange(many)
            dues = [factor * x + draw.choice((0, 0, 0, 0, many, -many, many // 2, 1)) for factor in factors]
            told = self.assert_met(many, factors, dues)
            met = [x for x in range(many) if all((f * x - due) % many == 0 for f, due in zip(factors, dues))]
            self.assertEqual(met, list(range(told[1], many, told[2])) if told[0] == "all" else [])
            words.append(told[0])
        self.assertTrue(words.count("all") > 300 and words.count("none") > 300)

    def test_nothing_to_meet(self):
        self.assertEqual(all_meeting(12, [], []), ("all", 0, 1))

    def test_great_dials(self):
        draw = random.Random(19)
        words = []
        for _ in range(200):
            share = draw.choice((1, 2, 6, 10 ** 20))
            factors = [share * draw.randrange(GREATEST // share) for _ in range(draw.randint(1, 5))]
            x = draw.randrange(GREATEST)
            dues = [factor * x + draw.choice((0, 0, 0, GREATEST // 2, share)) for factor in factors]
            words.append(self.assert_met(GREATEST, factors, dues)[0])
        self.assertTrue(words.count("all") > 30 and words.count("none") > 30)


class Joined(unittest.TestCase):
    def assert_joined(self, one, other):
        told = joined_of(one, other)
        self.assertIs(type(told), tuple)
        if told[0] == "none":
            word, divisor = told
            self.assertTrue(divisor >= 1)
            self.assertEqual((one[1] % divisor, other[1] % divisor), (0, 0))
            self.assertNotEqual(one[0] % divisor, other[0] % divisor)
            return told
        word, first, step = told
        self.assertEqual(word, "all")
        self.assertTrue(0 <= first < step)
        self.assertEqual((first % one[1], first % other[1]), (one[0], other[0]))
        self.assertEqual(step, math.lcm(one[1], other[1]))
        return told

    def test_small_stretches_against_all_numbers(self):
        for step in range(1, 9):
            for pace in range(1, 9):
                for first in range(step):
                    for second in range(pace):
                        told = self.assert_joined((first, step), (second, pace))
                        both = [x for x in range(-70, 70) if x % step == first and x % pace == second]
                        if told[0] == "all":
                            self.assertEqual(both, [x for x in range(-70, 70) if x % told[2] == told[1]])
                        else:
                            self.assertEqual(both, [])

    def test_some(self):
        self.assertEqual(joined_of((1, 2), (2, 3)), ("all", 5, 6))
        self.assertEqual(joined_of((0, 1), (3, 7)), ("all", 3, 7))
        self.assertEqual(joined_of((3, 7), (3, 7)), ("all", 3, 7))
        self.assertEqual(self.assert_joined((1, 4), (2, 6))[0], "none")

    def test_great_steps_and_told_ones(self):
        draw = random.Random(12)
        words = []
        told = (0, 1)
        for _ in range(200):
            share = draw.choice([1, 6, 10 ** 29])
            one = share * draw.randint(1, GREATEST // share)
            other = share * draw.randint(1, GREATEST // share)
            first, second = draw.randrange(one), draw.randrange(other)
            if draw.random() < 0.5:
                second = (first + share * draw.randint(0, 99)) % other
            joined = self.assert_joined((first, one), (second, other))
            words.append(joined[0])
            if joined[0] == "all":
                again = self.assert_joined(joined[1:], told)
                told = joined[1:] if again[0] == "none" or again[2] > 10 ** 300 else again[1:]
        self.assertTrue(words.count("all") > 30 and words.count("none") > 30)
        self.assert_joined((GREATEST - 1, GREATEST), (0, GREATEST - 1))
        self.assert_joined((GREATEST - 1, GREATEST), (0, GREATEST))


class Weights(unittest.TestCase):
    def assert_weights(self, many, numbers):
        asked = list(numbers)
        told = weights_of(many, asked)
        self.assertEqual(asked, list(numbers))
        self.assertIs(type(told), tuple)
        greatest, weights = told
        self.assertIs(type(weights), list)
        self.assertIsNot(weights, asked)
        self.assertEqual(len(weights), len(numbers))
        self.assertEqual(greatest, math.gcd(many, *numbers), (many, numbers))
        total = sum(weight * number for weight, number in zip(weights, numbers))
        self.assertEqual((total - greatest) % many, 0, (many, numbers))
        return greatest

    def test_one_number(self):
        for many in range(2, 20):
            for number in range(-40, 41):
                self.assert_weights(many, [number])

    def test_two_and_three_numbers(self):
        for many in (2, 6, 12, 30):
            for one in range(-13, 14):
                for other in range(-13, 14):
                    self.assert_weights(many, [one, other])
                    self.assert_weights(many, [one, other, 10])

    def test_up_to_ten_numbers(self):
        draw = random.Random(13)
        for length in range(1, 11):
            for many in (2, 12, 30030, 2 ** 40 * 3 ** 20, GREATEST, GREATEST - 1):
                for share in (1, 6, 2310):
                    numbers = [share * draw.randint(-10 ** 57, 10 ** 57) for _ in range(length)]
                    self.assert_weights(many, numbers)

    def test_each_number_is_needed(self):
        self.assertEqual(self.assert_weights(30, [6, 10, 15]), 1)
        self.assertEqual(self.assert_weights(30030, [15015, -10010, 6006, -4290, 2730, 2310]), 1)

    def test_many_divides_them_all(self):
        for many in (2, 12, GREATEST):
            for numbers in ([0], [many], [-many, 0], [0] * 10, [many * k for k in range(-5, 5)]):
                self.assertEqual(self.assert_weights(many, numbers), many)

    def test_told_list_is_new(self):
        greatest, weights = weights_of(12, [8, 6])
        again = list(weights)
        weights.append(5)
        self.assertEqual(weights_of(12, [8, 6]), (greatest, again))
        self.assertEqual(weights_of(12, [8, 6]), weights_of(12, [8, 6]))


class Counts(unittest.TestCase):
    def test_small_stretches_against_all_numbers(self):
        for step in range(1, 9):
            for first in range(step):
                for bound in range(40):
                    due = len([x for x in range(bound) if x % step == first])
                    self.assertEqual(count_below((first, step), bound), due)

    def test_edges(self):
        for first, step in ((0, 1), (0, 5), (4, 5), (3, GREATEST), (GREATEST - 1, GREATEST)):
            self.assertEqual(count_below((first, step), 0), 0)
            self.assertEqual(count_below((first, step), first), 0)
            self.assertEqual(count_below((first, step), first + 1), 1)
            self.assertEqual(count_below((first, step), first + step), 1)
            self.assertEqual(count_below((first, step), first + step + 1), 2)
            if first > 0:
                self.assertEqual(count_below((first, step), first - 1), 0)

    def test_great_bounds(self):
        self.assertEqual(count_below((2, 7), 7 * 10 ** 59), 10 ** 59)
        self.assertEqual(count_below((2, 7), 7 * 10 ** 59 + 3), 10 ** 59 + 1)
        self.assertEqual(count_below((0, 1), GREATEST), GREATEST)


if __name__ == "__main__":
    unittest.main()

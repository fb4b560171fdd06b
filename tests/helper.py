"""What several test files need: clocks to go through, and pictures compared word by word as in point 6."""

import random

from dialdoubt.clocks import made_clock
from dialdoubt.errors import TooAlike

GREATEST = 10 ** 60


def drawn_clock(draw, many, hands_many, letters, blank, mirror):
    """A clock with drawn gears, starts and looks."""
    while True:
        hands = [(draw.randrange(many), draw.randrange(many), draw.choice(letters)) for _ in range(hands_many)]
        try:
            return made_clock(many, hands, blank, mirror)
        except TooAlike:
            continue


def small_clocks(seed, each, most_marks=12):
    """Small clocks with every count of hands, blank or not, with a mirror or not, alike and unlike."""
    draw = random.Random(seed)
    clocks = []
    for blank in (False, True):
        for mirror in (False, True):
            for hands_many in range(1, 6):
                for letters in ("ab", "abc", "abcde"):
                    if letters == "ab" and hands_many > (3 if mirror else 4):
                        continue
                    if letters == "abc" and mirror and hands_many > 4:
                        continue
                    for _ in range(each):
                        many = draw.randint(2, most_marks)
                        clocks.append(drawn_clock(draw, many, hands_many, letters, blank, mirror))
    return clocks


def slow_picture(clock, tick):
    many, hands, _, _ = clock
    return sorted((look, (start + gear * tick) % many) for gear, start, look in hands)


def slow_are_one(clock, one, other):
    """Goes through all numbers r and both signs."""
    many, _, blank, mirror = clock
    for sign in (1, -1) if mirror else (1,):
        for r in range(many) if blank else (0,):
            if sorted((look, (sign * mark + r) % many) for look, mark in one) == sorted(other):
                return True
    return False


def slow_same(clock, one, other):
    return slow_are_one(clock, slow_picture(clock, one), slow_picture(clock, other))

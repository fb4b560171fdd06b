"""Readings: the ways to take the hands of one tick for those of another."""

from dialdoubt.errors import Coarse
from dialdoubt.rests import weights_of


def readings_of(clock):
    """All readings of a clock in their order, the plain one first."""
    many, hands, blank, mirror = clock
    views = (False, True) if mirror else (False,)
    return [(swap, mirrored) for swap in swaps_of(hands) for mirrored in views]


def swaps_of(hands):
    """All swaps, rising."""
    looks = [look for gear, start, look in hands]
    swaps = [()]
    for wanted in looks:
        # Each round keeps the order: what is rising so far is made longer by rising numbers.
        swaps = [
            swap + (hand,)
            for swap in swaps
            for hand, look in enumerate(looks)
            if look == wanted and hand not in swap
        ]
    return swaps


def rows_of(clock, reading):
    """The rows (a, b, c) of a reading."""
    return rows_between(clock, clock[1], reading)


def rows_between(clock, seen, reading):
    """The rows of a reading by which the clock's hands are taken for those that are seen."""
    many, hands, blank, mirror = clock
    swap, mirrored = reading
    sign = -1 if mirrored else 1
    rows = [row_of(many, hand, hands[taken], sign) for hand, taken in zip(seen, swap)]
    if not blank:
        return rows
    # How a blank dial is turned is unknown but the same for all hands: it goes away in the differences.
    return [row_less(many, row, rows[0]) for row in rows[1:]]


def row_of(many, hand, taken, sign):
    """The row of a hand that is taken for another one, as it is seen by the sign."""
    gear, start, look = hand
    taken_gear, taken_start, taken_look = taken
    return taken_gear, sign * gear % many, (sign * start - taken_start) % many


def row_less(many, row, first):
    """A row less the first one, number by number."""
    a, b, c = row
    first_a, first_b, first_c = first
    return (a - first_a) % many, (b - first_b) % many, (c - first_c) % many


def is_taken(clock, reading, tick, other):
    """Whether the reading takes the tick other for the tick."""
    many = clock[0]
    return all((a * other - b * tick - c) % many == 0 for a, b, c in rows_of(clock, reading))


def coarse_step(clock):
    """The step of a clock: many where it is not coarse."""
    many = clock[0]
    plain = readings_of(clock)[0]
    # Of no rows the greatest divisor is many itself, as the point on coarse clocks wants it.
    greatest, weights = weights_of(many, [a for a, b, c in rows_of(clock, plain)])
    return many // greatest


def need_fine(clock):
    """Refuses a coarse clock."""
    step = coarse_step(clock)
    if step < clock[0]:
        raise Coarse(step)

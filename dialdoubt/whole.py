"""Whole clocks: a tick with a rival, or papers that show that no tick has one."""

from dialdoubt.papers import is_doubt, row_sums, summed_papers
from dialdoubt.readings import coarse_step, readings_of, rows_of
from dialdoubt.rests import all_meeting, weights_of
from dialdoubt.takings import only_other, terms_to_meet


def whole_paper(clock):
    """A tick with a rival and the reading, or papers that show for each reading that there is none."""
    many = clock[0]
    readings = readings_of(clock)
    step = coarse_step(clock)
    if step < many:
        return "rival", 0, step, readings[0]
    papers = []
    for reading in readings:
        word, shown = reading_whole(many, rows_of(clock, reading))
        if word == "rival":
            tick, other = shown
            return "rival", tick, other, reading
        papers.append((word, shown))
    return "clear", papers


def reading_whole(many, rows):
    """("rival", (tick, other)) by a reading of a clock that is not coarse, or its word and multipliers."""
    weights, scale, shift = only_other(many, rows)
    factors, dues = terms_to_meet(rows, scale, shift)
    met = all_meeting(many, factors, dues)
    if met[0] == "none":
        return "never", tuple(without_other(many, rows, weights, met[1]))
    word, first, step = met
    # The way from a tick to its other one grows alike from each tick of the stretch to the next: two tell it all.
    for tick in (first, first + step):
        other = (scale * tick + shift) % many
        if (other - tick) % many != 0:
            return "rival", (tick, other)
    greatest, again = weights_of(many, factors)
    # All those ways are nought, so the greatest divides 1 - scale, and the factors can make up for it.
    times = (1 - scale) // greatest
    added = without_other(many, rows, weights, [times * weight for weight in again])
    return "one", tuple((weight + number) % many for weight, number in zip(weights, added))


def without_other(many, rows, weights, multipliers):
    """Multipliers of the rows that do as these do of the terms to meet, where the other tick is gone.

    They add all a up to 0, all b to the sum that these make of the factors, all c to minus that of the dues.
    """
    a, b, c = row_sums(many, rows, multipliers)
    return [(a * weight - number) % many for weight, number in zip(weights, multipliers)]


def whole_right(clock, told):
    """Whether what is told of a clock is right, whoever made it."""
    if len(told) == 4 and told[0] == "rival":
        return is_doubt(clock, told[1], told[2], told[3])
    if len(told) == 2 and told[0] == "clear":
        summed = summed_papers(clock, told[1])
        return summed is not None and all(shows_never(word, sums) for word, sums in summed)
    return False


def shows_never(word, sums):
    """Whether a paper with these sums shows that its reading takes no other tick for any."""
    a, b, c = sums
    if word == "never":
        return a == 0 and b == 0 and c != 0
    return word == "one" and a == 1 and b == 1 and c == 0

"""What judges of papers need: doubts, and the sums that multipliers make of the rows of a reading."""

from dialdoubt.readings import is_taken, readings_of, rows_of
from dialdoubt.rests import weighed_sum


def is_doubt(clock, tick, other, reading):
    """Whether the reading is one of the clock and takes the tick other, another one, for the tick."""
    if (tick - other) % clock[0] == 0:
        return False
    # What is no reading of the clock has no rows, so it must not come to is_taken.
    return reading in readings_of(clock) and is_taken(clock, reading, tick, other)


def row_sums(many, rows, multipliers):
    """The sums of multipliers times a, times b and times c."""
    return (
        weighed_sum(many, multipliers, [a for a, b, c in rows]),
        weighed_sum(many, multipliers, [b for a, b, c in rows]),
        weighed_sum(many, multipliers, [c for a, b, c in rows]),
    )


def summed_papers(clock, papers):
    """(word, row sums) of the paper of each reading, or None where they don't fit the readings and their rows."""
    readings = readings_of(clock)
    if len(papers) != len(readings):
        return None
    summed = []
    for reading, (word, multipliers) in zip(readings, papers):
        rows = rows_of(clock, reading)
        if len(multipliers) != len(rows):
            return None
        summed.append((word, row_sums(clock[0], rows, multipliers)))
    return summed

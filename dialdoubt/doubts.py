"""Doubts of clocks, told and judged: a tick, a rival, and the reading that takes the rival for the tick."""

from dialdoubt.papers import is_doubt
from dialdoubt.whole import whole_paper


def doubt_of(clock):
    """A doubt (tick, other, reading) of the clock, or None where no tick has a rival."""
    told = whole_paper(clock)
    return told[1:] if told[0] == "rival" else None


def first_clear(clocks):
    """(place, doubts): that of the first clock without rivals, or None, and a doubt of each clock ahead of it."""
    doubts = []
    for at, clock in enumerate(clocks):
        doubt = doubt_of(clock)
        if doubt is None:
            return at, doubts
        doubts.append(doubt)
    return None, doubts


def doubts_right(clocks, doubts):
    """Whether there is a right doubt for each of the clocks, in order, and no more."""
    # What is told of painted hands has a lone doubt where that of kept ones has a list.
    if not isinstance(doubts, list) or len(doubts) != len(clocks):
        return False
    return all(is_doubt(clock, tick, other, reading) for clock, (tick, other, reading) in zip(clocks, doubts))

"""Which hands to keep or to paint, so that no tick has a rival."""

from dialdoubt.clocks import kept_hands, painted_hands
from dialdoubt.doubts import doubt_of, doubts_right, first_clear


def fewest_kept(clock):
    """The fewest hands that leave no rivals where just they are kept, with a doubt for each choice of fewer."""
    doubts = []
    for size in range(1, len(clock[1]) + 1):
        at, more = first_clear(kept_clocks(clock, size))
        if at is not None:
            return "keep", choices_of(clock, size)[at], doubts
        # Of hands that are kept each choice needs its doubt: more of them may be alike, and then leave rivals again.
        doubts.extend(more)
    return "never", doubts


def fewest_painted(clock):
    """The fewest hands that leave no rivals where they are painted, with a doubt for each choice of one fewer."""
    fewer_doubts = []
    for size in range(len(clock[1]) + 1):
        at, doubts = first_clear(painted_clocks(clock, size))
        if at is not None:
            return "paint", choices_of(clock, size)[at], fewer_doubts
        fewer_doubts = doubts
    # All hands can be chosen in just one way.
    return "never", fewer_doubts[0]


def choices_of(clock, size):
    """All rising tuples of that many hands, rising."""
    choices = [()]
    for place in range(size):
        choices = [
            some + (hand,)
            for some in choices
            for hand in range(len(clock[1]))
            if place == 0 or hand > some[-1]
        ]
    return choices


def kept_clocks(clock, size):
    """The clocks with each choice of that many hands kept."""
    return [kept_hands(clock, some) for some in choices_of(clock, size)]


def painted_clocks(clock, size):
    """The clocks with each choice of that many hands painted."""
    return [painted_hands(clock, some) for some in choices_of(clock, size)]


def kept_right(clock, told):
    """Whether what is told of the fewest hands to keep is right, whoever made it."""
    if len(told) == 3 and told[0] == "keep":
        word, some, doubts = told
        # No hands at all are a choice as well, but none that can be kept.
        if len(some) == 0 or some not in choices_of(clock, len(some)):
            return False
        return doubt_of(kept_hands(clock, some)) is None and doubts_right(fewer_kept(clock, len(some)), doubts)
    if len(told) == 2 and told[0] == "never":
        return doubts_right(fewer_kept(clock, len(clock[1]) + 1), told[1])
    return False


def fewer_kept(clock, bound):
    """The clocks with each choice of fewer hands than the bound kept, those of fewer hands first."""
    return [kept for size in range(1, bound) for kept in kept_clocks(clock, size)]


def painted_right(clock, told):
    """Whether what is told of the fewest hands to paint is right, whoever made it."""
    if len(told) == 3 and told[0] == "paint":
        word, some, doubts = told
        if some not in choices_of(clock, len(some)):
            return False
        # Painted hands have fewer readings, so a doubt with one hand fewer is one with fewer still.
        fewer = painted_clocks(clock, len(some) - 1) if len(some) > 0 else []
        return doubt_of(painted_hands(clock, some)) is None and doubts_right(fewer, doubts)
    if len(told) == 2 and told[0] == "never":
        # What is told of kept hands has a list of doubts here.
        return isinstance(told[1], tuple) and doubts_right(painted_clocks(clock, len(clock[1])), [told[1]])
    return False

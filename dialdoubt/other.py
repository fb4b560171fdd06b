"""Other gears and other starts of a hand, the first that leaves no rivals."""

from dialdoubt.clocks import need_hand, with_hand
from dialdoubt.doubts import doubt_of, doubts_right, first_clear


def other_gear(clock, hand, tries):
    """The first gear from the hand's own on that leaves no rivals, and a doubt with each one ahead of it."""
    return first_found(clock, "gear", hand, tries)


def other_start(clock, hand, tries):
    """The first start from the hand's own on that leaves no rivals, and a doubt with each one ahead of it."""
    return first_found(clock, "start", hand, tries)


def first_found(clock, kind, hand, tries):
    """What other_gear and other_start tell, by their kind."""
    clocks = tried_clocks(clock, kind, hand, tries)
    at, doubts = first_clear(clocks)
    if at is None:
        return "none", doubts
    return "found", number_in(clocks[at], kind, hand), doubts


def tried_clocks(clock, kind, hand, tries):
    """The clocks with each of the hand's gears or starts that are tried, in order; refuses what is no hand."""
    need_hand(clock[1], hand)
    gear, start, look = clock[1][hand]
    if kind == "gear":
        return [with_hand(clock, hand, gear + more, start) for more in range(tries)]
    return [with_hand(clock, hand, gear, start + more) for more in range(tries)]


def number_in(clock, kind, hand):
    """The hand's gear or start."""
    gear, start, look = clock[1][hand]
    return gear if kind == "gear" else start


def other_right(clock, kind, hand, tries, told):
    """Whether what is told of other gears or starts is right, whoever made it."""
    # Made ahead of all that is told, since what is no hand is refused whatever that is.
    clocks = tried_clocks(clock, kind, hand, tries)
    if len(told) == 3 and told[0] == "found":
        word, number, doubts = told
        at = len(doubts)
        if at >= len(clocks) or number != number_in(clocks[at], kind, hand):
            return False
        return doubt_of(clocks[at]) is None and doubts_right(clocks[:at], doubts)
    if len(told) == 2 and told[0] == "none":
        return doubts_right(clocks, told[1])
    return False

"""Clocks, the marks of their hands and the pictures of their ticks."""

from dialdoubt.errors import BadClock, NoHand, TooAlike

LETTERS = "abcdefghijklmnopqrstuvwxyz"
FEWEST_MARKS = 2
MOST_MARKS = 10 ** 60
MOST_HANDS = 5
MOST_READINGS = 6


def made_clock(many, hands, blank, mirror):
    """A clock, with gears and starts taken by their rests."""
    if not FEWEST_MARKS <= many <= MOST_MARKS:
        raise BadClock("a dial has from 2 to 10 ** 60 marks")
    if not 1 <= len(hands) <= MOST_HANDS:
        raise BadClock("a clock has from one to five hands")
    looks = [look for gear, start, look in hands]
    if not all(is_look(look) for look in looks):
        raise BadClock("a look is one small letter")
    if readings_many(looks, mirror) > MOST_READINGS:
        raise TooAlike("a clock has at most six readings")
    return many, tuple(made_hand(many, gear, start, look) for gear, start, look in hands), blank, mirror


def made_hand(many, gear, start, look):
    """A hand of a dial with many marks."""
    return gear % many, start % many, look


def is_look(text):
    """Whether a text is one small letter."""
    # The length is asked too, since each stretch of the alphabet is in it, the empty text among them.
    return len(text) == 1 and text in LETTERS


def readings_many(looks, mirror):
    """How many readings a clock with these looks has, without making them."""
    told = 2 if mirror else 1
    for at, look in enumerate(looks):
        # The k-th of alike hands multiplies the swaps by k.
        told *= looks[:at + 1].count(look)
    return told


def mark_of(clock, hand, tick):
    """The mark that a hand points to at a tick."""
    many, hands, blank, mirror = clock
    need_hand(hands, hand)
    gear, start, look = hands[hand]
    return (start + gear * tick) % many


def picture_of(clock, tick):
    """The sorted pairs (look, mark) of all hands at a tick."""
    hands = clock[1]
    return sorted([(look, mark_of(clock, hand, tick)) for hand, (gear, start, look) in enumerate(hands)])


def same_picture(clock, one, other):
    """Whether two ticks show one picture."""
    return are_one(clock, picture_of(clock, one), picture_of(clock, other))


def are_one(clock, seen, wanted):
    """Whether two sorted pictures, not empty ones, are one on the clock's dial."""
    many, hands, blank, mirror = clock
    signs = (1, -1) if mirror else (1,)
    for sign in signs:
        for turn in turns_of(blank, seen, wanted, sign):
            if turned_picture(many, seen, sign, turn) == wanted:
                return True
    return False


def turns_of(blank, seen, wanted, sign):
    """The few turns of the dial by which one picture can be the other."""
    if not blank:
        return [0]
    # The first pair must come to lie on some pair of its look, so no other turn of the dial needs a try.
    first_look, first_mark = seen[0]
    return [mark - sign * first_mark for look, mark in wanted if look == first_look]


def turned_picture(many, picture, sign, turn):
    """A picture as it is seen by a sign and a turn of the dial."""
    return sorted([(look, (sign * mark + turn) % many) for look, mark in picture])


def kept_hands(clock, some):
    """The clock with just some of its hands."""
    many, hands, blank, mirror = clock
    if len(some) == 0:
        raise NoHand("at least one hand is kept")
    need_rising(hands, some)
    return many, tuple(hands[hand] for hand in some), blank, mirror


def painted_hands(clock, some):
    """The clock with some of its hands painted, each with a look of its own."""
    many, hands, blank, mirror = clock
    need_rising(hands, some)
    painted = list(hands)
    # A look that was painted over stays taken: a new look is none of the old ones.
    taken = [look for gear, start, look in hands]
    for hand in some:
        gear, start, old = hands[hand]
        new = least_free(taken)
        taken.append(new)
        painted[hand] = (gear, start, new)
    return many, tuple(painted), blank, mirror


def least_free(taken):
    """The least letter that is not taken."""
    return [letter for letter in LETTERS if letter not in taken][0]


def with_hand(clock, hand, gear, start):
    """The clock with another gear and start of a hand."""
    many, hands, blank, mirror = clock
    need_hand(hands, hand)
    changed = list(hands)
    changed[hand] = made_hand(many, gear, start, hands[hand][2])
    return many, tuple(changed), blank, mirror


def need_hand(hands, hand):
    """Refuses a number that is no hand's."""
    # A number below nought would be taken by Python as one from the end.
    if not 0 <= hand < len(hands):
        raise NoHand("the clock has no hand of that number")


def need_rising(hands, some):
    """Refuses what is not rising numbers of hands."""
    for at, hand in enumerate(some):
        need_hand(hands, hand)
        if at > 0 and hand <= some[at - 1]:
            raise NoHand("the numbers of the hands do not rise")

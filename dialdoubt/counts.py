"""Clear ticks counted and numbered, without going through the ticks."""

from dialdoubt.errors import NoSuch
from dialdoubt.readings import need_fine, readings_of, rows_of
from dialdoubt.rests import count_below, joined_of
from dialdoubt.takings import taken_and_fixed


def clear_many(clock):
    """How many ticks are clear."""
    return clear_below(clock, clock[0])


def clear_below(clock, bound):
    """How many of the ticks 0 to bound - 1 are clear."""
    return sum_below(clear_shares(clock), bound)


def clear_by(clock, number):
    """The clear tick of that number."""
    return tick_by(clock[0], clear_shares(clock), number)


def doubtful_by(clock, number):
    """The doubtful tick of that number."""
    return tick_by(clock[0], doubtful_shares(clear_shares(clock)), number)


def number_of(clock, tick):
    """Whether the tick is clear, and its number among the clear or the doubtful ones."""
    own = tick % clock[0]
    shares = clear_shares(clock)
    below = sum_below(shares, own)
    if sum_below(shares, own + 1) > below:
        return True, below
    return False, own - below


def next_clear(clock, tick):
    """The least wait to a clear tick, or None where none is clear."""
    many = clock[0]
    own = tick % many
    shares = clear_shares(clock)
    in_all = sum_below(shares, many)
    if in_all == 0:
        return None
    # As many as are below the tick is the number of the first one from it on, or, round again, of the very first.
    number = sum_below(shares, own) % in_all
    return (tick_by(many, shares, number) - own) % many


def clear_shares(clock):
    """A dict of stretches and shares: those of the stretches that a tick is in add up to 1 if it is clear, else to 0.

    A reading makes a tick doubtful where it takes some tick for it, but not just itself. So the count of the ticks
    that no reading makes doubtful comes of the product of 1 - taken + fixed over the readings. Refuses a coarse clock.
    """
    need_fine(clock)
    many = clock[0]
    shares = {(0, 1): 1}
    for reading in readings_of(clock):
        taken, fixed = taken_and_fixed(many, rows_of(clock, reading))
        shares = shares_without(shares, taken, fixed)
    return shares


def shares_without(shares, taken, fixed):
    """The shares times 1 - taken + fixed."""
    product = {stretch: shares[stretch] for stretch in shares}
    for met, sign in ((taken, -1), (fixed, 1)):
        if met[0] == "all":
            for stretch in shares:
                add_joined(product, stretch, met[1:], sign * shares[stretch])
    return {stretch: product[stretch] for stretch in product if product[stretch] != 0}


def add_joined(product, one, other, share):
    """Adds a share to what both stretches have in common."""
    joined = joined_of(one, other)
    if joined[0] == "all":
        product[joined[1:]] = product.get(joined[1:], 0) + share


def doubtful_shares(shares):
    """The same for the doubtful ticks: 1 less the shares of the clear ones."""
    turned = {stretch: -shares[stretch] for stretch in shares}
    turned[(0, 1)] = turned.get((0, 1), 0) + 1
    return turned


def sum_below(shares, bound):
    """How many of the ticks 0 to bound - 1 the shares count."""
    return sum([shares[stretch] * count_below(stretch, bound) for stretch in shares])


def tick_by(many, shares, number):
    """The tick of that number among those that the shares count."""
    if not 0 <= number < sum_below(shares, many):
        raise NoSuch("there is no such tick of that number")
    low, high = 0, many - 1
    while low < high:
        middle = (low + high) // 2
        if sum_below(shares, middle + 1) > number:
            high = middle
        else:
            low = middle + 1
    return low

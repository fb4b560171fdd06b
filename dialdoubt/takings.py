"""For which ticks a reading takes which others, all at once, of a clock that is not coarse."""

from dialdoubt.papers import row_sums
from dialdoubt.rests import all_meeting, weights_of


def only_other(many, rows):
    """(weights, scale, shift): the weights add all a up to 1; no tick but scale * tick + shift is taken for a tick."""
    greatest, weights = weights_of(many, [a for a, b, c in rows])
    one, scale, shift = row_sums(many, rows, weights)
    return weights, scale, shift


def terms_to_meet(rows, scale, shift):
    """(factors, dues): scale * tick + shift is taken for a tick just where the tick meets all of these."""
    factors = [a * scale - b for a, b, c in rows]
    dues = [c - a * shift for a, b, c in rows]
    return factors, dues


def taken_and_fixed(many, rows):
    """The ticks for which the reading takes some tick, and those for which it takes just themselves."""
    weights, scale, shift = only_other(many, rows)
    factors, dues = terms_to_meet(rows, scale, shift)
    taken = all_meeting(many, factors, dues)
    fixed = all_meeting(many, factors + [scale - 1], dues + [-shift])
    return taken, fixed

"""Stretches of whole numbers by their rests, where they meet, and weights."""


def common_of(one, other):
    """(greatest, u, v): the greatest common divisor of two numbers from 0 on is u * one + v * other."""
    greatest, left = one, other
    u, left_u = 1, 0
    v, left_v = 0, 1
    while left != 0:
        times = greatest // left
        greatest, left = left, greatest - times * left
        u, left_u = left_u, u - times * left_u
        v, left_v = left_v, v - times * left_v
    return greatest, u, v


def meeting_of(many, factor, due):
    """The stretch of the x with factor * x and due of one rest by many, or a number that shows there are none."""
    greatest, u, v = common_of(factor % many, many)
    step = many // greatest
    if due % greatest != 0:
        # step * factor is a multiple of many; step * due is one only where greatest divides due.
        return "none", step
    return "all", due // greatest * u % step, step


def joined_of(one, other):
    """The stretch of the numbers in both stretches, or a divisor that shows there are none."""
    first, step = one
    other_first, other_step = other
    greatest, u, v = common_of(step, other_step)
    apart = other_first - first
    if apart % greatest != 0:
        return "none", greatest
    # How often to go on by step until the other stretch is met: u undoes step // greatest by the rests of this.
    again = other_step // greatest
    times = apart // greatest * u % again
    return "all", first + step * times, step * again


def weights_of(many, numbers):
    """(greatest, list): the greatest divisor of many and all numbers, and the weights that make its rest of them."""
    greatest = many
    weights = []
    for number in numbers:
        # The greatest so far is, by rests, the sum of the weighted numbers so far, so all these take the factor u.
        greatest, u, v = common_of(greatest, number % many)
        weights = [weight * u % many for weight in weights] + [v % many]
    return greatest, weights


def weighed_sum(many, weights, numbers):
    """The sum of the weights times their numbers, by its rest."""
    return sum([weight * number for weight, number in zip(weights, numbers)]) % many


def all_meeting(many, factors, dues):
    """The stretch of the x that meet the due of each factor, or multipliers that show there are none.

    Those add the factors up to the rest 0, but the dues to another one.
    """
    greatest, weights = weights_of(many, factors)
    # The weighed sum of all that x must meet: greatest * x leaves the rest of this one.
    due = weighed_sum(many, weights, dues)
    for at, factor in enumerate(factors):
        times = factor // greatest
        if (times * due - dues[at]) % many != 0:
            shown = [times * weight for weight in weights]
            shown[at] -= 1
            return "none", [number % many for number in shown]
    step = many // greatest
    if due % greatest != 0:
        return "none", [step * weight % many for weight in weights]
    return "all", due // greatest, step


def count_below(stretch, bound):
    """How many numbers from 0 to bound - 1 are in a stretch."""
    first, step = stretch
    return max(0, (bound - first + step - 1) // step)

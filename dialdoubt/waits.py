"""Second looks: which ticks two looks leave, and how long to wait between them."""

from dialdoubt.clocks import same_picture
from dialdoubt.rivals import rivals_of

MOST_WAIT = 200


def two_looks(clock, tick, wait):
    """All ticks that two looks at the tick leave, with a wait between, the tick itself among them."""
    rivals = rivals_of(clock, tick)
    return sorted([tick % clock[0]] + left_rivals(clock, rivals, tick, wait))


def left_rivals(clock, rivals, tick, wait):
    """Those of the tick's rivals that a second look leaves."""
    return [other for other in rivals if same_picture(clock, other + wait, tick + wait)]


def least_wait(clock, tick):
    """The least wait from 0 to 200 that leaves the tick alone, or None, and a rival for each lesser one."""
    rivals = rivals_of(clock, tick)
    told = []
    for wait in range(MOST_WAIT + 1):
        left = left_rivals(clock, rivals, tick, wait)
        if len(left) == 0:
            return wait, told
        told.append(left[0])
    return None, told


def wait_right(clock, tick, told):
    """Whether what is told of a tick's least wait is right, whoever made it."""
    # Asked ahead of all that is told, since a coarse clock is refused whatever that is.
    rivals = rivals_of(clock, tick)
    wait, others = told
    if not fits_wait(wait, len(others)):
        return False
    for lesser, other in enumerate(others):
        if other % clock[0] not in left_rivals(clock, rivals, tick, lesser):
            return False
    return wait is None or len(left_rivals(clock, rivals, tick, wait)) == 0


def fits_wait(wait, others_many):
    """Whether there are as many rivals as waits that they are told for."""
    if wait is None:
        return others_many == MOST_WAIT + 1
    return wait <= MOST_WAIT and others_many == wait

"""What several test files need: clocks to go through, and the document's points taken word by word."""

import itertools
import math
import random
import string

from dialdoubt.clocks import made_clock
from dialdoubt.errors import TooAlike
from dialdoubt.whole import whole_paper

GREATEST = 10 ** 60

# The parts of each dial have no common divisor, so each can be gone through for itself.
GREAT_DIALS = (
    (2 ** 60, 5 ** 60),
    (2 ** 5, 3 ** 4, 5 ** 2, 7 ** 2, 11, 13, 17, 19, 23, 29, 31, 37, 41, 43, 47, 53, 59, 61, 67, 71, 73, 79, 83, 89, 97,
     101, 103, 107, 109, 113),
    (2 ** 7, 3 ** 3, 5, 7, 11, 101, 10 ** 40 + 121),
)
# None of these is a swap of a clock with three hands of which just the first two are alike.
OTHER_SWAPS = (
    (1, 0), (), (1, 0, 2, 3), (1, 0, -1), (1, 0, 5), (0, 2, 1), (-2, -3, -1), (1, 1, 2), (1, 0, 10 ** 60),
)
GREAT_SHAPES = (
    (False, False, "aa"), (False, True, "aa"), (True, False, "aab"), (True, True, "aab"), (False, False, "aaa"),
    (True, False, "aaa"), (False, False, "aabb"), (True, False, "aabbc"), (False, True, "ab"), (True, True, "abcde"),
    (False, False, "abcaa"), (True, True, "abac"), (False, True, "a"),
)


def drawn_clock(draw, many, hands_many, letters, blank, mirror):
    """A clock with drawn gears, starts and looks."""
    while True:
        hands = [(draw.randrange(many), draw.randrange(many), draw.choice(letters)) for _ in range(hands_many)]
        try:
            return made_clock(many, hands, blank, mirror)
        except TooAlike:
            continue


def small_clocks(seed, each, most_marks=12):
    """Small clocks with every count of hands, blank or not, with a mirror or not, alike and unlike."""
    draw = random.Random(seed)
    clocks = []
    for blank in (False, True):
        for mirror in (False, True):
            for hands_many in range(1, 6):
                for letters in ("ab", "abc", "abcde"):
                    if letters == "ab" and hands_many > (3 if mirror else 4):
                        continue
                    if letters == "abc" and mirror and hands_many > 4:
                        continue
                    for _ in range(each):
                        many = draw.randint(2, most_marks)
                        clocks.append(drawn_clock(draw, many, hands_many, letters, blank, mirror))
    return clocks


def great_clocks(seed, each):
    """Great clocks: some drawn freely, and such that one of their readings takes many ticks for others."""
    draw = random.Random(seed)
    clocks = []
    for parts in GREAT_DIALS:
        for blank, mirror, looks in GREAT_SHAPES:
            for _ in range(each):
                clocks.append(drawn_great_clock(draw, parts, blank, mirror, looks))
                clocks.append(even_clock(draw, parts, blank, mirror, looks))
    return clocks


def drawn_great_clock(draw, parts, blank, mirror, looks):
    """A clock whose gears and starts share much with the dial."""
    hands = []
    for look in looks:
        gear, start = [draw.randint(-99, 99) * math.prod(part for part in parts if draw.random() < 0.6) for _ in (0, 1)]
        hands.append((gear, draw.choice((0, start)), look))
    return made_clock(math.prod(parts), hands, blank, mirror)


def even_clock(draw, parts, blank, mirror, looks):
    """A clock by one of whose readings, drawn, a multiple of almost each tick is taken for it."""
    many = math.prod(parts)
    shape = made_clock(many, [(1, 0, look) for look in looks], blank, mirror)
    swap, mirrored = slow_readings(shape)[-draw.randint(1, 3) % len(slow_readings(shape))]
    gears, starts = [0] * len(looks), [0] * len(looks)
    for part in parts:
        lift = many // part * pow(many // part, -1, part)
        cycles = cycles_of(swap)
        root = draw.choice(roots_of(part, max(len(cycle) for cycle in cycles)))
        for cycle in cycles:
            gear = unit_of(draw, part) if pow(root, len(cycle), part) == 1 else 0
            start = 0 if mirrored else draw.randrange(part)
            for hand in cycle:
                gears[hand] += gear * lift
                starts[hand] += start * lift
                gear = gear * root % part
    # What goes astray in a few parts of the dial leaves the reading just a stretch of the ticks.
    astray = draw.randrange(len(looks))
    gears[astray] += draw.choice((0, many // draw.choice(parts), many // 2, many // 10))
    starts[astray] += draw.choice((0, 0, many // draw.choice(parts), many // 2))
    common = draw.randrange(many) if blank else 0
    hands = [(gear + common, start, look) for gear, start, look in zip(gears, starts, looks)]
    return made_clock(many, hands, blank, mirror)


def cycles_of(swap):
    cycles = []
    for hand in range(len(swap)):
        if not any(hand in cycle for cycle in cycles):
            cycle = [hand]
            while swap[cycle[-1]] != hand:
                cycle.append(swap[cycle[-1]])
            cycles.append(cycle)
    return cycles


def unit_of(draw, part):
    """A number that has no divisor in common with a part of the dial."""
    while True:
        number = draw.randrange(1, part)
        if math.gcd(number, part) == 1:
            return number


def roots_of(part, times):
    """Numbers that, that many times multiplied, leave the rest 1 by a part of the dial: all of a small one."""
    some = range(part) if part < 2000 else (1, part - 1)
    return [x for x in some if pow(x, times, part) == 1]


def fine(clocks):
    """Those of the clocks that are not coarse."""
    return [clock for clock in clocks if slow_step(clock) == clock[0]]


def coarse(clocks):
    return [clock for clock in clocks if slow_step(clock) < clock[0]]


def slow_step(clock):
    """Point 11 by the greatest common divisor that Python tells."""
    firsts = [row[0] for row in slow_rows(clock, slow_readings(clock)[0])]
    return clock[0] // math.gcd(clock[0], *firsts)


def slow_keys(clock):
    """For each tick the least of all pictures that are one with its own: one key for one picture."""
    many, _, blank, mirror = clock
    keys = []
    for tick in range(many):
        picture = slow_picture(clock, tick)
        keys.append(min(
            sorted((look, (sign * mark + r) % many) for look, mark in picture)
            for sign in ((1, -1) if mirror else (1,))
            for r in (range(many) if blank else (0,))
        ))
    return keys


def slow_rivals(clock):
    """For each tick its rivals, by going through all of them."""
    keys = slow_keys(clock)
    return [[other for other, key in enumerate(keys) if key == own and other != tick] for tick, own in enumerate(keys)]


def slow_doubt(clock, tick, other, reading):
    """Whether the reading, if it is one of the clock, takes another tick for the tick."""
    many = clock[0]
    if (other - tick) % many == 0 or reading not in slow_readings(clock):
        return False
    return all((a * other - b * tick - c) % many == 0 for a, b, c in slow_rows(clock, reading))


def slow_papers_right(clock, papers, shows):
    """Whether there is a paper for each reading, a multiplier for each row, and all show what they should.

    That is asked by the word and the sums of multipliers times a, times b and times c.
    """
    readings = slow_readings(clock)
    if len(papers) != len(readings):
        return False
    for reading, (word, multipliers) in zip(readings, papers):
        rows = slow_rows(clock, reading)
        if len(rows) != len(multipliers):
            return False
        if not shows(word, *[sum(m * row[k] for m, row in zip(multipliers, rows)) % clock[0] for k in range(3)]):
            return False
    return True


def slow_whole_right(clock, told):
    """Point 15, word by word."""
    if told[0] == "rival":
        return slow_doubt(clock, told[1], told[2], told[3])

    def shows(word, a, b, c):
        return (word == "never" and a == 0 and b == 0 and c != 0) or (word == "one" and (a, b, c) == (1, 1, 0))

    return slow_papers_right(clock, told[1], shows)


def slow_clear(clock):
    """Whether no tick has a rival, by going through all of them."""
    return not any(slow_rivals(clock))


def shown_clear(clock):
    """The same of great clocks: what whole_paper tells is held against the document, so it can't be wrong."""
    told = whole_paper(clock)
    assert slow_whole_right(clock, told), (clock, told)
    return told[0] == "clear"


def slow_kept(clock, some):
    many, hands, blank, mirror = clock
    return many, tuple(hands[hand] for hand in some), blank, mirror


def slow_painted(clock, some):
    """Point 7, word by word."""
    many, hands, blank, mirror = clock
    old = [look for _, _, look in hands]
    new = {}
    for hand in some:
        new[hand] = min(letter for letter in string.ascii_lowercase if letter not in old and letter not in new.values())
    painted = tuple((gear, start, new.get(hand, look)) for hand, (gear, start, look) in enumerate(hands))
    return many, painted, blank, mirror


def choices(clock, sizes):
    """The rising tuples of as many hands as the sizes tell, in their order."""
    return [some for size in sizes for some in itertools.combinations(range(len(clock[1])), size)]


def slow_doubts_right(clocks, doubts):
    """Whether there is a right doubt for each clock and no more."""
    return len(clocks) == len(doubts) and all(slow_doubt(clock, *doubt) for clock, doubt in zip(clocks, doubts))


def all_doubts(clock):
    """All doubts of a small clock."""
    return [
        (tick, other, reading)
        for reading in slow_readings(clock)
        for tick in range(clock[0])
        for other in range(clock[0])
        if slow_doubt(clock, tick, other, reading)
    ]


def other_doubts(draw, clocks):
    """A right doubt, drawn, for each of some small clocks, with ticks of any size and sign."""
    told = []
    for clock in clocks:
        tick, other, reading = draw.choice(all_doubts(clock))
        many = clock[0]
        size = draw.choice((1, 10 ** 50))
        told.append((tick + many * draw.randint(-size, size), other + many * draw.randint(-size, size), reading))
    return told


def misfit_doubts(clocks, doubts):
    """Doubts that are wrong of each clock: too few or too many, or of one tick, or by what is no reading."""
    told = [doubts[:at] + doubts[at + 1:] for at in range(len(doubts))]
    told.extend([doubts[:1] + doubts, doubts + doubts[-1:]] if doubts else [[(0, 1, ((0,), False))]])
    for at, (clock, (tick, other, reading)) in enumerate(zip(clocks, doubts)):
        many = clock[0]
        swap, mirrored = reading
        changes = [(tick, tick + far * many, reading) for far in (0, 1, -1, 10 ** 50)]
        head = swap[:-1]
        for other_swap in (head, head + (-1,), head + (10 ** 60,), swap + swap[-1:], swap + (len(swap),)):
            changes.append((tick, other, (other_swap, mirrored)))
        if not clock[3]:
            changes.append((tick, other, (swap, True)))
        told.extend(doubts[:at] + [change] + doubts[at + 1:] for change in changes)
    return told


def changed_doubts(draw, clocks, doubts):
    """Doubts with one of them changed, or two exchanged: most of them are wrong."""
    told = [doubts[::-1]]
    for at in range(1, len(doubts)):
        told.append(doubts[:at - 1] + [doubts[at], doubts[at - 1]] + doubts[at + 1:])
    for at, (clock, (tick, other, (swap, mirrored))) in enumerate(zip(clocks, doubts)):
        order = list(swap)
        draw.shuffle(order)
        for change in (
            (tick + 1, other, (swap, mirrored)), (tick, other + 1, (swap, mirrored)), (other, tick, (swap, mirrored)),
            (tick, other, (swap, not mirrored)), (tick, other, (tuple(order), mirrored)),
            (tick - clock[0], other + 3 * clock[0], (swap, mirrored)),
        ):
            told.append(doubts[:at] + [change] + doubts[at + 1:])
    return told


def slow_picture(clock, tick):
    many, hands, _, _ = clock
    return sorted((look, (start + gear * tick) % many) for gear, start, look in hands)


def slow_are_one(clock, one, other):
    """Goes through all numbers r and both signs."""
    many, _, blank, mirror = clock
    for sign in (1, -1) if mirror else (1,):
        for r in range(many) if blank else (0,):
            if sorted((look, (sign * mark + r) % many) for look, mark in one) == sorted(other):
                return True
    return False


def slow_same(clock, one, other):
    return slow_are_one(clock, slow_picture(clock, one), slow_picture(clock, other))


def slow_readings(clock):
    """Goes through all orders of the hands."""
    _, hands, _, mirror = clock
    told = []
    for swap in sorted(itertools.permutations(range(len(hands)))):
        if all(hands[taken][2] == hands[hand][2] for hand, taken in enumerate(swap)):
            told.append((swap, False))
            if mirror:
                told.append((swap, True))
    return told


def slow_rows(clock, reading):
    """Point 10, word by word."""
    many, hands, blank, _ = clock
    swap, mirrored = reading
    rows = []
    for i in range(len(hands)):
        a, b, start = hands[swap[i]][0], hands[i][0], hands[i][1]
        if mirrored:
            b, start = -b, -start
        c = start - hands[swap[i]][1]
        rows.append((a % many, b % many, c % many))
    if blank:
        return [tuple((x - y) % many for x, y in zip(row, rows[0])) for row in rows[1:]]
    return rows


def changed_papers(draw, papers):
    """The papers with one of them, drawn, changed, and with some left out, doubled or put elsewhere."""
    at = draw.randrange(len(papers))
    word, multipliers = papers[at]
    changes = [(other, multipliers) for other in ("not", "one", "never", "rival", "clear", "") if other != word]
    for place in range(len(multipliers)):
        changes.append((word, multipliers[:place] + (multipliers[place] + 1,) + multipliers[place + 1:]))
        changes.append((word, multipliers[:place] + multipliers[place + 1:]))
    for other in (multipliers[::-1], multipliers + (0,), (0,) + multipliers, (), (0,) * len(multipliers)):
        changes.append((word, other))
    changes.append(papers[at - 1])
    told = [papers[:at] + [change] + papers[at + 1:] for change in changes]
    return told + [papers[::-1], papers[1:], papers[:-1], papers + papers[-1:], papers[:1] + papers, []]


def misfit_papers(papers):
    """Papers that are wrong of each clock, since they are too few or too many, or their multipliers are."""
    return [papers + papers[-1:], papers[:-1], [], [(word, multipliers + (0,)) for word, multipliers in papers]]

"""Rivals of a tick, papers that show whether it has one, and ticks read off a picture."""

from dialdoubt.papers import is_doubt, summed_papers
from dialdoubt.readings import need_fine, readings_of, rows_between, rows_of
from dialdoubt.rests import all_meeting, weights_of


def rivals_of(clock, tick):
    """All other ticks that show one picture with the tick."""
    need_fine(clock)
    rows_by_reading = [rows_of(clock, reading) for reading in readings_of(clock)]
    own = tick % clock[0]
    return [other for other in met_ticks(clock[0], rows_by_reading, tick) if other != own]


def met_ticks(many, rows_by_reading, tick):
    """The rising ticks that some reading takes for the tick, of a clock that is not coarse."""
    found = set()
    for rows in rows_by_reading:
        met = taken_for(many, rows, tick)
        if met[0] == "all":
            # Each reading of such a clock takes at most one tick: its stretch has the step many.
            found.add(met[1])
    return sorted(found)


def taken_for(many, rows, tick):
    """The stretch of the ticks that a reading takes for the tick, or multipliers that show there are none."""
    return all_meeting(many, [a for a, b, c in rows], [b * tick + c for a, b, c in rows])


def tick_paper(clock, tick):
    """A rival of the tick with its reading, or papers that show for each reading that there is none."""
    papers = []
    for reading in readings_of(clock):
        word, shown = reading_paper(clock[0], rows_of(clock, reading), tick % clock[0])
        if word == "rival":
            return "rival", shown, reading
        papers.append((word, shown))
    return "clear", papers


def reading_paper(many, rows, tick):
    """("rival", other) by a reading, or its word and multipliers that show that there is none."""
    met = taken_for(many, rows, tick)
    if met[0] == "none":
        return "not", tuple(met[1])
    word, first, step = met
    if first != tick:
        return "rival", first
    if step < many:
        return "rival", first + step
    greatest, weights = weights_of(many, [a for a, b, c in rows])
    return "one", tuple(weights)


def tick_paper_right(clock, tick, told):
    """Whether what is told of a tick is right, whoever made it."""
    if len(told) == 3 and told[0] == "rival":
        return is_doubt(clock, tick, told[1], told[2])
    if len(told) == 2 and told[0] == "clear":
        summed = summed_papers(clock, told[1])
        return summed is not None and all(shows_none(clock[0], tick, word, sums) for word, sums in summed)
    return False


def shows_none(many, tick, word, sums):
    """Whether a paper with these sums shows that its reading takes no other tick for the tick."""
    a, b, c = sums
    due = (b * tick + c) % many
    if word == "not":
        return a == 0 and due != 0
    return word == "one" and a == 1 and due == tick % many


def read_picture(clock, picture):
    """All ticks whose picture is one with this one."""
    need_fine(clock)
    seen = seen_hands(clock[1], picture)
    if seen is None:
        return []
    rows_by_reading = [rows_between(clock, seen, reading) for reading in readings_of(clock)]
    return met_ticks(clock[0], rows_by_reading, 0)


def seen_hands(hands, picture):
    """A standing hand for each hand, on some mark of the picture with its look, or None where the looks differ."""
    left = list(picture)
    seen = []
    for gear, start, wanted in hands:
        places = [at for at, (look, mark) in enumerate(left) if look == wanted]
        if len(places) == 0:
            return None
        look, mark = left.pop(places[0])
        seen.append((0, mark, look))
    return seen if len(left) == 0 else None

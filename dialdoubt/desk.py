"""A desk, which keeps a clock and answers rows: deeds that change the clock, and questions."""

from dialdoubt.clocks import made_clock, need_hand, painted_hands, picture_of, with_hand
from dialdoubt.counts import clear_by, clear_many, doubtful_by, next_clear
from dialdoubt.errors import NoBack, NoMark, NoRow
from dialdoubt.keeping import fewest_kept, fewest_painted
from dialdoubt.rivals import read_picture, rivals_of
from dialdoubt.texts import clock_text, read_clock, values_of
from dialdoubt.waits import least_wait
from dialdoubt.whole import whole_paper

# The kinds of the words that come behind the first word of a row.
DEED_KINDS = {
    "put": ("number", "number", "look"),
    "lose": ("number",),
    "paint": ("number",),
    "gear": ("number", "number"),
    "start": ("number", "number"),
    "blank": (),
    "mirror": (),
}
QUESTION_KINDS = {
    "show": (),
    "picture": ("number",),
    "rivals": ("number",),
    "count": (),
    "clear": ("number",),
    "doubt": ("number",),
    "next": ("number",),
    "look": ("number",),
    "whole": (),
    "keep": (),
    "paint": (),
}


def row_words(row):
    """The words of a row; refuses what is no text."""
    if not isinstance(row, str):
        raise NoRow("a row is a text")
    return row.split(" ")


def deed_values(words):
    """What the words of a deed mean behind the first one, or None where it is no deed."""
    kinds = DEED_KINDS.get(words[0])
    return None if kinds is None else values_of(words[1:], kinds)


def question_values(words):
    """What the words of a question mean behind the first one, or None where it is no question."""
    kinds = QUESTION_KINDS.get(words[0])
    if words[0] == "read":
        kinds = seen_kinds(len(words) - 1)
    return None if kinds is None else values_of(words[1:], kinds)


def seen_kinds(count):
    """The kinds of that many pairs of a look and a mark, or None where there are none."""
    return ("seen",) * count if count > 0 else None


def put_hand(clock, values):
    """The clock with a hand more, the last."""
    many, hands, blank, mirror = clock
    return made_clock(many, hands + (tuple(values),), blank, mirror)


def lose_hand(clock, values):
    """The clock without a hand."""
    many, hands, blank, mirror = clock
    lost = values[0]
    need_hand(hands, lost)
    return made_clock(many, hands[:lost] + hands[lost + 1:], blank, mirror)


def paint_hand(clock, values):
    """The clock with a hand painted."""
    return painted_hands(clock, values)


def turn_gear(clock, values):
    """The clock with another gear of a hand."""
    hand, gear = values
    need_hand(clock[1], hand)
    return with_hand(clock, hand, gear, clock[1][hand][1])


def turn_start(clock, values):
    """The clock with another start of a hand."""
    hand, start = values
    need_hand(clock[1], hand)
    return with_hand(clock, hand, clock[1][hand][0], start)


def turn_blank(clock, values):
    """The clock with a blank dial, or with one that isn't."""
    many, hands, blank, mirror = clock
    return many, hands, not blank, mirror


def turn_mirror(clock, values):
    """The clock with a mirror, or without."""
    many, hands, blank, mirror = clock
    return made_clock(many, hands, blank, not mirror)


def show_answer(clock, values):
    """The clock, written."""
    return clock_text(clock)


def picture_answer(clock, values):
    """The picture of a tick."""
    return " ".join([f"{look}-{mark}" for look, mark in picture_of(clock, values[0])])


def rivals_answer(clock, values):
    """The rivals of a tick."""
    rivals = rivals_of(clock, values[0])
    return numbered("rivals", rivals) if rivals else "clear"


def count_answer(clock, values):
    """How many ticks are clear."""
    return str(clear_many(clock))


def clear_answer(clock, values):
    """The clear tick of a number."""
    return str(clear_by(clock, values[0]))


def doubt_answer(clock, values):
    """The doubtful tick of a number."""
    return str(doubtful_by(clock, values[0]))


def next_answer(clock, values):
    """The wait from a tick to the next clear one."""
    return number_or_never(next_clear(clock, values[0]))


def look_answer(clock, values):
    """The least wait that tells a tick by two looks."""
    wait, rivals = least_wait(clock, values[0])
    return number_or_never(wait)


def whole_answer(clock, values):
    """Whether all ticks are clear."""
    return "clear" if whole_paper(clock)[0] == "clear" else "doubt"


def keep_answer(clock, values):
    """How many hands to keep."""
    return hands_or_never(fewest_kept(clock))


def paint_answer(clock, values):
    """How many hands to paint."""
    return hands_or_never(fewest_painted(clock))


def read_answer(clock, values):
    """The ticks that have a picture."""
    # read_picture takes marks by their rests, and refuses a coarse clock first.
    if any(mark >= clock[0] for look, mark in values):
        raise NoMark("the dial has no such mark")
    return numbered("ticks", read_picture(clock, values))


def numbered(word, numbers):
    """A word and the numbers behind it."""
    return " ".join([word] + [str(number) for number in numbers])


def number_or_never(number):
    """A number, written, or the word for none."""
    return "never" if number is None else str(number)


def hands_or_never(told):
    """How many hands are told to be kept or painted, or the word for none."""
    return "never" if told[0] == "never" else str(len(told[1]))


DEEDS = {
    "put": put_hand,
    "lose": lose_hand,
    "paint": paint_hand,
    "gear": turn_gear,
    "start": turn_start,
    "blank": turn_blank,
    "mirror": turn_mirror,
}
QUESTIONS = {
    "show": show_answer,
    "picture": picture_answer,
    "rivals": rivals_answer,
    "count": count_answer,
    "clear": clear_answer,
    "doubt": doubt_answer,
    "next": next_answer,
    "look": look_answer,
    "whole": whole_answer,
    "keep": keep_answer,
    "paint": paint_answer,
    "read": read_answer,
}


class Desk:
    """A clock, and the clocks that it was ahead of each deed that is not taken back."""

    def __init__(self, text):
        self.clock = read_clock(text)
        self.earlier = []

    def say(self, row):
        """The answer to a row; a row that is refused changes nothing."""
        words = row_words(row)
        if words == ["back"]:
            return self.take_back()
        values = deed_values(words)
        if values is not None:
            return self.carry_out(words[0], values)
        values = question_values(words)
        if values is None:
            raise NoRow("the desk has no such row")
        question = QUESTIONS[words[0]]
        return question(self.clock, values)

    def carry_out(self, name, values):
        """Does a deed."""
        deed = DEEDS[name]
        # Made ahead of all changes, since the deed may be refused.
        changed = deed(self.clock, values)
        self.earlier.append(self.clock)
        self.clock = changed
        return "ok"

    def take_back(self):
        """Takes the last deed back."""
        if len(self.earlier) == 0:
            raise NoBack("no deed is left to be taken back")
        self.clock = self.earlier.pop()
        return "ok"

"""Clocks written as texts and read back, and the words of which rows are made."""

from dialdoubt.clocks import MOST_HANDS, is_look, made_clock
from dialdoubt.errors import NoText

FIGURES = "0123456789"
MOST_FIGURES = 61

# The kinds of the words that come behind the first word of a row.
ROW_KINDS = {"dial": ("number",), "blank": (), "mirror": (), "hand": ("number", "number", "look")}
# The rows behind which a row can stand; the very first one stands behind the row without a name.
STANDS_BEHIND = {
    "dial": ("",),
    "blank": ("dial",),
    "mirror": ("dial", "blank"),
    "hand": ("dial", "blank", "mirror", "hand"),
}


def clock_text(clock):
    """The clock, written in rows."""
    many, hands, blank, mirror = clock
    rows = [f"dial {many}"]
    if blank:
        rows.append("blank")
    if mirror:
        rows.append("mirror")
    for gear, start, look in hands:
        rows.append(f"hand {gear} {start} {look}")
    return "\n".join(rows)


def read_clock(text):
    """The clock that is written in a text."""
    rows = [row.split(" ") for row in text.split("\n")]
    names = []
    for at, words in enumerate(rows):
        if not can_stand(words, names):
            raise NoText(at)
        names.append(words[0])
    if "hand" not in names:
        raise NoText(len(rows))
    many = int(rows[0][1])
    hands = [values_of(words[1:], ROW_KINDS["hand"]) for words in rows if words[0] == "hand"]
    return made_clock(many, hands, "blank" in names, "mirror" in names)


def can_stand(words, names):
    """Whether a row of these words can stand behind the rows of these names."""
    name = words[0]
    if name not in ROW_KINDS or values_of(words[1:], ROW_KINDS[name]) is None:
        return False
    last = names[-1] if names else ""
    return last in STANDS_BEHIND[name] and names.count("hand") < MOST_HANDS


def values_of(words, kinds):
    """A list of what the words mean, or None where they don't fit the kinds."""
    if len(words) != len(kinds):
        return None
    values = [value_of(word, kind) for word, kind in zip(words, kinds)]
    return None if None in values else values


def value_of(word, kind):
    """What a word of that kind means, or None where it is none of that kind."""
    if kind == "number":
        return int(word) if is_number(word) else None
    if kind == "look":
        return word if is_look(word) else None
    look, dash, mark = word.partition("-")
    # Without a dash the mark is empty, which is no number.
    return (look, int(mark)) if is_look(look) and is_number(mark) else None


def is_number(word):
    """Whether a word is a number, written by figures without a nought ahead, and not too many of them."""
    if not 1 <= len(word) <= MOST_FIGURES:
        return False
    # Python itself would read signs, blanks and the figures of other scripts as well.
    return all(figure in FIGURES for figure in word) and (word == "0" or word[0] != "0")

"""The refusals of the program, each of a class of its own."""


class DoubtError(ValueError):
    """Any refusal."""


class BadClock(DoubtError):
    """No clock can be made of this."""


class TooAlike(DoubtError):
    """The clock would have more readings than are allowed."""


class NoHand(DoubtError):
    """The clock has no such hand, or no such choice of hands."""


class NoSuch(DoubtError):
    """There is no tick of that number."""


class NoMark(DoubtError):
    """The dial has no such mark."""


class NoRow(DoubtError):
    """The desk has no such row."""


class NoBack(DoubtError):
    """No deed is left to be taken back."""


class Coarse(DoubtError):
    """The clock is coarse, so the question is not answered; its step is kept."""

    def __init__(self, step):
        super().__init__(f"the clock is coarse, with the step {step}")
        self.step = step


class NoText(DoubtError):
    """The text is no clock's; the number of the row that can't stand is kept."""

    def __init__(self, row):
        super().__init__(f"row {row} of the text can't stand")
        self.row = row

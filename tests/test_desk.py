import copy
import random
import unittest

from dialdoubt.clocks import painted_hands, picture_of
from dialdoubt.counts import clear_by, clear_many, doubtful_by, next_clear
from dialdoubt.desk import Desk
from dialdoubt.errors import BadClock, Coarse, DoubtError, NoBack, NoHand, NoMark, NoRow, NoSuch, NoText, TooAlike
from dialdoubt.keeping import fewest_kept, fewest_painted
from dialdoubt.rivals import rivals_of
from dialdoubt.texts import clock_text, read_clock
from dialdoubt.waits import least_wait
from tests.helper import (
    choices, coarse, fine, great_clocks, slow_are_one, slow_clear, slow_kept, slow_painted, slow_picture, slow_rivals,
    slow_step, small_clocks,
)

CLOCK = "dial 12\nhand 1 0 a\nhand 11 0 a"
COARSE = "dial 12\nhand 2 0 a\nhand 4 0 b"
MOST = "9" * 61
TOO_MANY_FIGURES = "1" + "0" * 61
NO_NUMBERS = (
    "", "-1", "+1", "01", "00", "-0", "1.0", "1_0", "x", "a", "1a", "a1", "a-1", TOO_MANY_FIGURES, "0" + MOST, "1\n",
    "\n", "\u0661", "\u00b2",
)
DEEDS = (
    "put 1 0 b", "lose 0", "paint 0", "gear 0 5", "start 0 5", "blank", "mirror",
)
QUESTIONS = (
    "show", "picture 2", "rivals 2", "rivals 6", "count", "clear 0", "doubt 0", "next 2", "look 2", "whole", "keep",
    "paint", "read a-2 a-10", "read a-0",
)


class DeskMixin(unittest.TestCase):
    def refused(self, desk, row, error):
        """Checks the refusal of a row, and that it changes nothing: neither the clock nor what back takes back."""
        before = desk.say("show")
        with self.assertRaises(error, msg=repr(row)) as caught:
            desk.say(row)
        self.assertIs(type(caught.exception), error, row)
        self.assertEqual(desk.say("show"), before)
        return caught.exception

    def said(self, desk, *rows):
        for row in rows:
            self.assertEqual(desk.say(row), "ok", row)


class Made(DeskMixin):
    def test_shows_its_clock(self):
        for clock in small_clocks(501, 1) + great_clocks(501, 1):
            self.assertEqual(Desk(clock_text(clock)).say("show"), clock_text(clock))
        self.assertEqual(Desk("dial 5\nhand 12 5 a").say("show"), "dial 5\nhand 2 0 a")

    def test_refuses_as_read_clock(self):
        for text, row in (("", 0), ("dial 12", 1), ("dial 12\nhand 1 0 a\n", 2), ("dial 12\nhand 01 0 a", 1)):
            with self.assertRaises(NoText) as caught:
                Desk(text)
            self.assertEqual(caught.exception.row, row)
        with self.assertRaises(BadClock):
            Desk("dial 1\nhand 1 0 a")
        with self.assertRaises(TooAlike):
            Desk("dial 12" + "\nhand 1 0 a" * 4)

    def test_two_desks_leave_each_other_alone(self):
        one, other = Desk(CLOCK), Desk(CLOCK)
        self.said(one, "put 3 4 b", "blank")
        self.assertEqual(other.say("show"), CLOCK)
        self.refused(other, "back", NoBack)
        self.said(other, "lose 0")
        self.assertEqual(one.say("show"), "dial 12\nblank\nhand 1 0 a\nhand 11 0 a\nhand 3 4 b")
        self.said(one, "back", "back")
        self.assertEqual((one.say("show"), other.say("show")), (CLOCK, "dial 12\nhand 11 0 a"))


class Deeds(DeskMixin):
    def assert_shown(self, desk, *rows):
        self.assertEqual(desk.say("show"), "\n".join(rows))

    def test_put(self):
        desk = Desk("dial 12\nhand 1 0 a")
        self.said(desk, "put 5 3 b", "put 0 0 a", f"put 25 {MOST} z")
        rest = (10 ** 61 - 1) % 12
        self.assert_shown(desk, "dial 12", "hand 1 0 a", "hand 5 3 b", "hand 0 0 a", f"hand 1 {rest} z")

    def test_lose(self):
        desk = Desk("dial 12\nmirror\nhand 1 0 a\nhand 5 3 b\nhand 2 0 c")
        self.said(desk, "lose 1")
        self.assert_shown(desk, "dial 12", "mirror", "hand 1 0 a", "hand 2 0 c")
        self.said(desk, "lose 0")
        self.assert_shown(desk, "dial 12", "mirror", "hand 2 0 c")

    def test_lose_each(self):
        for clock in small_clocks(511, 1):
            for hand in range(len(clock[1])):
                if len(clock[1]) > 1:
                    desk = Desk(clock_text(clock))
                    self.said(desk, f"lose {hand}")
                    kept = tuple(other for other in range(len(clock[1])) if other != hand)
                    self.assertEqual(desk.say("show"), clock_text(slow_kept(clock, kept)))

    def test_paint(self):
        desk = Desk(CLOCK)
        self.said(desk, "paint 1")
        self.assert_shown(desk, "dial 12", "hand 1 0 a", "hand 11 0 b")
        self.said(desk, "paint 0")
        self.assert_shown(desk, "dial 12", "hand 1 0 c", "hand 11 0 b")
        # No hand has the look a by then.
        self.said(desk, "paint 1")
        self.assert_shown(desk, "dial 12", "hand 1 0 c", "hand 11 0 a")
        for clock in small_clocks(512, 1):
            for hand in range(len(clock[1])):
                desk = Desk(clock_text(clock))
                self.said(desk, f"paint {hand}")
                self.assertEqual(desk.say("show"), clock_text(slow_painted(clock, (hand,))))

    def test_gear_and_start(self):
        desk = Desk("dial 12\nhand 1 2 a\nhand 3 4 b")
        self.said(desk, "gear 1 5")
        self.assert_shown(desk, "dial 12", "hand 1 2 a", "hand 5 4 b")
        self.said(desk, "start 0 7")
        self.assert_shown(desk, "dial 12", "hand 1 7 a", "hand 5 4 b")
        self.said(desk, f"gear 0 {MOST}", "start 1 12")
        self.assert_shown(desk, "dial 12", f"hand {(10 ** 61 - 1) % 12} 7 a", "hand 5 0 b")

    def test_blank_and_mirror(self):
        desk = Desk("dial 12\nhand 1 2 a")
        self.said(desk, "blank")
        self.assert_shown(desk, "dial 12", "blank", "hand 1 2 a")
        self.said(desk, "mirror")
        self.assert_shown(desk, "dial 12", "blank", "mirror", "hand 1 2 a")
        self.said(desk, "blank")
        self.assert_shown(desk, "dial 12", "mirror", "hand 1 2 a")
        self.said(desk, "mirror")
        self.assert_shown(desk, "dial 12", "hand 1 2 a")

    def test_back(self):
        for deed in DEEDS:
            desk = Desk(CLOCK)
            self.said(desk, deed)
            self.assertNotEqual(desk.say("show"), CLOCK)
            self.said(desk, "back")
            self.assertEqual(desk.say("show"), CLOCK)
            self.refused(desk, "back", NoBack)

    def test_back_over_several_deeds(self):
        desk = Desk(CLOCK)
        shown = [CLOCK]
        for deed in DEEDS:
            self.said(desk, deed)
            shown.append(desk.say("show"))
        for due in shown[-2::-1]:
            self.said(desk, "back")
            self.assertEqual(desk.say("show"), due)
        self.refused(desk, "back", NoBack)

    def test_a_deed_behind_back(self):
        desk = Desk("dial 12\nhand 1 0 a")
        self.said(desk, "put 1 0 b", "put 2 0 c", "back", "put 3 0 d")
        self.assert_shown(desk, "dial 12", "hand 1 0 a", "hand 1 0 b", "hand 3 0 d")
        self.said(desk, "back")
        self.assert_shown(desk, "dial 12", "hand 1 0 a", "hand 1 0 b")
        self.said(desk, "back")
        self.assert_shown(desk, "dial 12", "hand 1 0 a")
        self.refused(desk, "back", NoBack)

    def test_back_is_no_deed_itself(self):
        desk = Desk("dial 12\nhand 1 0 a")
        self.said(desk, "gear 0 2", "gear 0 3", "back", "back")
        self.assert_shown(desk, "dial 12", "hand 1 0 a")
        self.refused(desk, "back", NoBack)
        self.refused(desk, "back", NoBack)

    def test_a_deed_that_leaves_all_as_it_was_is_taken_back_as_well(self):
        desk = Desk("dial 12\nhand 1 0 a")
        self.said(desk, "start 0 5", "gear 0 1", "start 0 17", "back", "back")
        self.assert_shown(desk, "dial 12", "hand 1 5 a")
        self.said(desk, "back")
        self.assert_shown(desk, "dial 12", "hand 1 0 a")
        self.refused(desk, "back", NoBack)

    def test_neither_questions_nor_refused_rows_are_taken_back(self):
        desk = Desk(CLOCK)
        self.said(desk, "put 0 5 b")
        before = desk.say("show")
        self.said(desk, "start 2 7")
        for question in QUESTIONS:
            desk.say(question)
        for row, error in (
            ("lose 7", NoHand), ("gear 3 1", NoHand), ("nothing", NoRow), (None, NoRow), ("read a-12", NoMark),
            ("clear 99", NoSuch), ("paint 01", NoRow),
        ):
            self.refused(desk, row, error)
        self.said(desk, "back")
        self.assertEqual(desk.say("show"), before)
        self.said(desk, "back")
        self.refused(desk, "back", NoBack)

    def test_drawn_deeds_against_a_list_of_clocks(self):
        draw = random.Random(513)
        done = 0
        for clock in small_clocks(513, 1):
            desk = Desk(clock_text(clock))
            kept = [clock]
            for _ in range(40):
                row, due = drawn_deed(draw, kept)
                if due is None:
                    self.refused(desk, row, NoBack)
                    continue
                try:
                    self.assertEqual(desk.say(row), "ok")
                except (BadClock, TooAlike):
                    self.assertFalse(1 <= len(due[1]) <= 5 and readings_many(due) <= 6, (row, due))
                else:
                    self.assertTrue(1 <= len(due[1]) <= 5 and readings_many(due) <= 6, (row, due))
                    if row == "back":
                        kept.pop()
                    else:
                        kept.append(due)
                    done += 1
                self.assertEqual(desk.say("show"), clock_text(kept[-1]))
        self.assertGreater(done, 500)


def readings_many(clock):
    told = 2 if clock[3] else 1
    looks = [look for _, _, look in clock[1]]
    for look in set(looks):
        for k in range(2, looks.count(look) + 1):
            told *= k
    return told


def drawn_deed(draw, kept):
    """A row, and the clock that it makes; None where nothing is left that back could take back."""
    many, hands, blank, mirror = clock = kept[-1]
    word = draw.choice(("put", "lose", "paint", "gear", "start", "blank", "mirror", "back"))
    hand, number, look = draw.randrange(len(hands)), draw.randrange(3 * many), draw.choice("abc")
    gear, start, old = hands[hand]

    def with_other(other):
        return many, hands[:hand] + (other,) + hands[hand + 1:], blank, mirror

    if word == "put":
        return f"put {number} 1 {look}", (many, hands + ((number % many, 1, look),), blank, mirror)
    if word == "lose":
        return f"lose {hand}", (many, hands[:hand] + hands[hand + 1:], blank, mirror)
    if word == "paint":
        return f"paint {hand}", slow_painted(clock, (hand,))
    if word == "gear":
        return f"gear {hand} {number}", with_other((number % many, start, old))
    if word == "start":
        return f"start {hand} {number}", with_other((gear, number % many, old))
    if word == "blank":
        return word, (many, hands, not blank, mirror)
    if word == "mirror":
        return word, (many, hands, blank, not mirror)
    return word, kept[-2] if len(kept) > 1 else None


class Questions(DeskMixin):
    def test_some(self):
        desk = Desk(CLOCK)
        for row, answer in (
            ("show", CLOCK), ("picture 2", "a-2 a-10"), ("picture 0", "a-0 a-0"), ("rivals 2", "rivals 10"),
            ("rivals 6", "clear"), ("count", "2"), ("clear 0", "0"), ("clear 1", "6"), ("doubt 0", "1"),
            ("doubt 5", "7"), ("next 0", "0"), ("next 1", "5"), ("next 7", "5"), ("look 0", "0"), ("look 2", "1"),
            ("whole", "doubt"), ("keep", "1"), ("paint", "1"), ("read a-2 a-10", "ticks 2 10"),
            ("read a-10 a-2", "ticks 2 10"),
            ("read a-0 a-0", "ticks 0"), ("read a-2 a-9", "ticks"), ("read a-2", "ticks"), ("read b-2 a-10", "ticks"),
            ("read a-2 a-10 a-2", "ticks"),
        ):
            self.assertEqual(desk.say(row), answer, row)
            self.assertIs(type(desk.say(row)), str)

    def test_clear_clock(self):
        desk = Desk("dial 12\nhand 1 3 b\nhand 5 0 a")
        for row, answer in (
            ("picture 2", "a-10 b-5"), ("rivals 2", "clear"), ("count", "12"), ("clear 11", "11"), ("next 5", "0"),
            ("look 5", "0"), ("whole", "clear"), ("keep", "1"), ("paint", "0"), ("read b-5 a-10", "ticks 2"),
        ):
            self.assertEqual(desk.say(row), answer, row)

    def test_never(self):
        # Each tick has a rival half a round later, and after each wait again.
        desk = Desk("dial 12\nhand 1 0 a\nhand 1 6 a")
        for row, answer in (
            ("count", "0"), ("next 3", "never"), ("look 3", "never"), ("whole", "doubt"), ("rivals 3", "rivals 9"),
            ("keep", "1"), ("paint", "1"), ("doubt 11", "11"),
        ):
            self.assertEqual(desk.say(row), answer, row)
        desk = Desk(COARSE)
        for row in ("keep", "paint"):
            self.assertEqual(desk.say(row), "never")
        self.assertEqual(desk.say("whole"), "doubt")
        self.assertEqual(desk.say("picture 7"), "a-2 b-4")
        self.assertEqual(desk.say("show"), COARSE)

    def test_several_rivals(self):
        desk = Desk("dial 7\nhand 1 0 a\nhand 2 0 a\nhand 4 0 a")
        self.assertEqual(desk.say("rivals 1"), "rivals 2 4")
        self.assertEqual(desk.say("read a-4 a-1 a-2"), "ticks 1 2 4")

    def test_ticks_beyond_a_round(self):
        desk = Desk(CLOCK)
        for word in ("picture", "rivals", "next", "look"):
            for tick in range(12):
                self.assertEqual(desk.say(f"{word} {tick + 12}"), desk.say(f"{word} {tick}"))
            self.assertEqual(desk.say(f"{word} {MOST}"), desk.say(f"{word} {(10 ** 61 - 1) % 12}"))

    def test_small_clocks_against_all_ticks(self):
        for clock in fine(small_clocks(521, 1, 9)):
            desk = Desk(clock_text(clock))
            rivals = slow_rivals(clock)
            clear = [tick for tick, others in enumerate(rivals) if not others]
            doubtful = [tick for tick, others in enumerate(rivals) if others]
            self.assertEqual(desk.say("count"), str(len(clear)))
            self.assertEqual(desk.say("whole"), "doubt" if doubtful else "clear")
            for word, ticks in (("clear", clear), ("doubt", doubtful)):
                for number, tick in enumerate(ticks):
                    self.assertEqual(desk.say(f"{word} {number}"), str(tick))
                self.refused(desk, f"{word} {len(ticks)}", NoSuch)
                self.refused(desk, f"{word} {MOST}", NoSuch)
            for tick, others in enumerate(rivals):
                picture = [f"{look}-{mark}" for look, mark in slow_picture(clock, tick)]
                self.assertEqual(desk.say(f"picture {tick}"), " ".join(picture))
                answer = " ".join(["rivals"] + [str(other) for other in others]) if others else "clear"
                self.assertEqual(desk.say(f"rivals {tick}"), answer)
                waits = [wait for wait in range(clock[0]) if (tick + wait) % clock[0] in clear]
                self.assertEqual(desk.say(f"next {tick}"), str(waits[0]) if waits else "never")
                wait = least_wait(clock, tick)[0]
                self.assertEqual(desk.say(f"look {tick}"), "never" if wait is None else str(wait))
                ticks = [str(other) for other in sorted(others + [tick])]
                self.assertEqual(desk.say("read " + " ".join(picture[::-1])), " ".join(["ticks"] + ticks))

    def test_keep_and_paint_against_all_hands(self):
        answers = []
        for clock in small_clocks(522, 2, 9):
            desk = Desk(clock_text(clock))
            for word, made, sizes in (("keep", slow_kept, range(1, 6)), ("paint", slow_painted, range(6))):
                clear = [len(some) for some in choices(clock, sizes) if slow_clear(made(clock, some))]
                self.assertEqual(desk.say(word), str(min(clear)) if clear else "never")
                answers.append((word, desk.say(word)))
        for word, due in (("keep", ("1", "2", "never")), ("paint", ("0", "1", "never"))):
            for answer in due:
                self.assertIn((word, answer), answers)

    def test_read_any_picture(self):
        draw = random.Random(523)
        for clock in fine(small_clocks(523, 1, 9)):
            desk = Desk(clock_text(clock))
            for _ in range(5):
                picture = [(look, draw.randrange(clock[0])) for _, _, look in clock[1]]
                due = [str(t) for t in range(clock[0]) if slow_are_one(clock, slow_picture(clock, t), picture)]
                row = " ".join(["read"] + [f"{look}-{mark}" for look, mark in picture])
                self.assertEqual(desk.say(row), " ".join(["ticks"] + due))

    def test_great_dials(self):
        draw = random.Random(524)
        for clock in fine(great_clocks(524, 1)):
            desk = Desk(clock_text(clock))
            tick = draw.randrange(clock[0])
            pairs = [f"{look}-{mark}" for look, mark in picture_of(clock, tick)]
            self.assertEqual(desk.say(f"picture {tick}"), " ".join(pairs))
            rivals = rivals_of(clock, tick)
            ticks = [str(other) for other in sorted(rivals + [tick])]
            self.assertEqual(desk.say("read " + " ".join(pairs)), " ".join(["ticks"] + ticks))
            self.assertEqual(desk.say(f"rivals {tick}") == "clear", rivals == [])
            count = clear_many(clock)
            self.assertEqual(desk.say("count"), str(count))
            if count > 0:
                self.assertEqual(desk.say(f"clear {count - 1}"), str(clear_by(clock, count - 1)))
                self.assertEqual(desk.say(f"next {tick}"), str(next_clear(clock, tick)))
            if count < clock[0]:
                self.assertEqual(desk.say("doubt 0"), str(doubtful_by(clock, 0)))
            for word, told in (("keep", fewest_kept(clock)), ("paint", fewest_painted(clock))):
                self.assertEqual(desk.say(word), "never" if told[0] == "never" else str(len(told[1])))

    def test_paint_without_a_number_is_a_question(self):
        desk = Desk(CLOCK)
        self.assertEqual(desk.say("paint"), "1")
        self.assertEqual(desk.say("show"), CLOCK)
        self.refused(desk, "back", NoBack)
        self.said(desk, "paint 0")
        self.assertEqual(desk.say("show"), clock_text(painted_hands(read_clock(CLOCK), (0,))))
        self.assertEqual(desk.say("paint"), "0")

    def test_questions_change_nothing_and_are_answered_alike(self):
        desk = Desk(CLOCK)
        answers = [desk.say(question) for question in QUESTIONS]
        self.assertEqual([desk.say(question) for question in QUESTIONS], answers)
        self.assertEqual(desk.say("show"), CLOCK)
        self.refused(desk, "back", NoBack)
        self.said(desk, "put 3 1 b")
        self.assertNotEqual([desk.say(question) for question in QUESTIONS], answers)
        self.said(desk, "back")
        self.assertEqual([desk.say(question) for question in QUESTIONS], answers)


class Refusals(DeskMixin):
    def test_what_is_no_text(self):
        desk = Desk(CLOCK)
        for row in (None, True, False, 0, 1, 10 ** 60, b"count", b"", [], ["count"], ("count",), {}, ["back"], str):
            before = copy.deepcopy(row) if isinstance(row, (list, dict)) else row
            self.refused(desk, row, NoRow)
            self.assertEqual(row, before)

    def test_first_words(self):
        desk = Desk(CLOCK)
        for row in (
            "", " ", "  ", "x", "Count", "COUNT", "counts", "hand 1 0 b", "dial 12", "find 3", "0", "a-1", "ok",
            "never", "backs", "Back", "ticks 2", "put-1", "blank\n", "show\n", "\nshow", "back\n", "count\tx", CLOCK,
        ):
            self.refused(desk, row, NoRow)

    def test_blanks_make_empty_words(self):
        desk = Desk(CLOCK)
        self.said(desk, "gear 0 5")
        for row in DEEDS + QUESTIONS + ("back",):
            self.refused(desk, " " + row, NoRow)
            self.refused(desk, row + " ", NoRow)
            if " " in row:
                self.refused(desk, row.replace(" ", "  "), NoRow)
                self.refused(desk, row.replace(" ", "  ", 1), NoRow)
                self.refused(desk, row.replace(" ", "\t"), NoRow)

    def test_counts_of_words(self):
        desk = Desk(CLOCK)
        for row in DEEDS + QUESTIONS + ("back",):
            words = row.split(" ")
            for more in ("0", "a", "1 2", "blank"):
                if f"{words[0]} {more}" not in ("paint 0",) and words[0] != "read":
                    self.refused(desk, f"{row} {more}", NoRow)
            if len(words) > 1 and words[0] != "read" and row != "paint 0":
                self.refused(desk, " ".join(words[:-1]), NoRow)
                self.refused(desk, words[0], NoRow)
        self.refused(desk, "read", NoRow)
        self.refused(desk, "paint 0 1", NoRow)

    def test_words_that_should_be_numbers(self):
        desk = Desk(CLOCK)
        for word in NO_NUMBERS:
            for row in (
                f"put {word} 0 b", f"put 0 {word} b", f"lose {word}", f"paint {word}", f"gear {word} 1",
                f"gear 0 {word}", f"start {word} 1", f"start 0 {word}", f"picture {word}", f"rivals {word}",
                f"clear {word}", f"doubt {word}", f"next {word}", f"look {word}", f"read a-{word}",
                f"read a-1 a-{word}",
            ):
                self.refused(desk, row, NoRow)

    def test_words_that_should_be_small_letters(self):
        desk = Desk(CLOCK)
        for word in ("", "A", "aa", "ab", "1", "-", "`", "{", "b\n", "\u00e9"):
            self.refused(desk, f"put 1 0 {word}", NoRow)
            self.refused(desk, f"read {word}-1", NoRow)
            self.refused(desk, f"read a-1 {word}-1 a-2", NoRow)

    def test_words_that_should_be_pairs(self):
        desk = Desk(CLOCK)
        for word in (
            "", "a", "1", "a1", "a-", "-", "-1", "a--1", "a-1-2", "a-1-", "a-1a", "1-a", "a-b", "a_1", "a-1\n",
        ):
            self.refused(desk, f"read {word}", NoRow)
            self.refused(desk, f"read a-1 {word}", NoRow)
            self.refused(desk, f"read {word} a-1", NoRow)

    def test_no_row_first(self):
        desk = Desk("dial 12" + "".join(f"\nhand 2 0 {look}" for look in "abcde"))
        for row in (
            "put 1 0 A", "lose 9 9", "paint 9 9", "gear 9 01", "start 9 x", "read a-99 b", "read a-99 a-01", "back 1",
        ):
            self.refused(desk, row, NoRow)
        self.refused(Desk("dial 12\nhand 1 0 a"), "lose 01", NoRow)

    def test_no_hand(self):
        desk = Desk(CLOCK)
        for hand in ("2", "3", "5", MOST):
            for row in (f"lose {hand}", f"paint {hand}", f"gear {hand} 1", f"start {hand} 1"):
                self.refused(desk, row, NoHand)

    def test_no_hand_ahead_of_others(self):
        desk = Desk("dial 12\nhand 1 0 a")
        self.refused(desk, "lose 1", NoHand)
        self.refused(desk, "lose 0", BadClock)
        self.refused(desk, f"lose {MOST}", NoHand)

    def test_a_sixth_hand_and_the_only_one(self):
        desk = Desk("dial 12" + "".join(f"\nhand 1 0 {look}" for look in "abcde"))
        self.refused(desk, "put 1 0 f", BadClock)
        # With these looks the readings would be too many as well.
        desk = Desk("dial 12\nhand 1 0 a\nhand 1 0 a\nhand 1 0 a\nhand 1 0 b\nhand 1 0 c")
        self.refused(desk, "put 1 0 a", BadClock)
        self.refused(desk, "put 1 0 b", BadClock)
        self.said(desk, "lose 4", "lose 3", "lose 0", "lose 0")
        self.refused(desk, "lose 0", BadClock)
        self.said(desk, "back", "lose 1")
        self.assertEqual(desk.say("show"), "dial 12\nhand 1 0 a")

    def test_too_many_readings(self):
        desk = Desk("dial 12\nhand 1 0 a\nhand 1 0 a\nhand 1 0 a\nhand 1 0 b")
        self.refused(desk, "put 1 0 a", TooAlike)
        self.refused(desk, "put 1 0 b", TooAlike)
        self.refused(desk, "mirror", TooAlike)
        self.said(desk, "put 1 0 c")
        self.refused(desk, "mirror", TooAlike)
        self.said(desk, "lose 0", "mirror", "back", "back", "back")
        self.refused(desk, "back", NoBack)
        desk = Desk("dial 12\nmirror\nhand 1 0 a\nhand 1 0 a\nhand 1 0 b")
        self.refused(desk, "put 1 0 a", TooAlike)
        self.refused(desk, "put 1 0 b", TooAlike)
        self.said(desk, "mirror", "put 1 0 b")
        self.refused(desk, "mirror", TooAlike)

    def test_no_back(self):
        desk = Desk(CLOCK)
        self.refused(desk, "back", NoBack)
        self.refused(desk, "lose 5", NoHand)
        self.refused(desk, "back", NoBack)
        self.said(desk, "blank", "back")
        self.refused(desk, "back", NoBack)

    def test_no_mark(self):
        desk = Desk(CLOCK)
        for mark in ("12", "13", "24", MOST):
            seen = f"a-{mark}"
            for words in ([seen], ["a-1", seen], [seen, "a-1"], [f"z-{mark}"], [seen] * 9):
                self.refused(desk, " ".join(["read"] + words), NoMark)
        self.assertEqual(desk.say("read a-11 a-1"), "ticks 1 11")

    def test_no_mark_ahead_of_coarse(self):
        desk = Desk(COARSE)
        self.refused(desk, "read a-12 b-0", NoMark)
        self.refused(desk, "read z-12", NoMark)
        self.assertEqual(self.refused(desk, "read a-11 b-0", Coarse).step, 6)
        self.assertEqual(self.refused(desk, "read z-11", Coarse).step, 6)

    def test_coarse(self):
        rows = ("rivals 0", "count", "clear 0", "clear 99", "doubt 0", "doubt 99", "next 0", "look 0", "read a-0 b-0")
        desk = Desk(COARSE)
        for row in rows:
            self.assertEqual(self.refused(desk, row, Coarse).step, 6)
        for clock in coarse(small_clocks(531, 1)):
            desk = Desk(clock_text(clock))
            for row in rows:
                self.assertEqual(self.refused(desk, row, Coarse).step, slow_step(clock))
            self.assertEqual([desk.say(row) for row in ("whole", "keep", "paint")], ["doubt", "never", "never"])

    def test_no_such(self):
        desk = Desk(CLOCK)
        for row in ("clear 2", "clear 12", f"clear {MOST}", "doubt 10", f"doubt {MOST}"):
            self.refused(desk, row, NoSuch)

    def test_all_are_refusals_of_the_program(self):
        desk = Desk(COARSE)
        for row in ("x", "lose 7", "back", "read a-99", "count"):
            with self.assertRaises(DoubtError):
                desk.say(row)


if __name__ == "__main__":
    unittest.main()

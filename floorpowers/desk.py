"""Desk: lines of words that tell a house and its sittings, lead lots and ask, each with its answer."""

from floorpowers.errors import BadPaper, BadWords, FloorError, NothingBack
from floorpowers.halls import Hall
from floorpowers.leading import Led
from floorpowers.live import Sitting
from floorpowers.stands import beginning
from floorpowers.telling import bare_words, row_lines, short_lines, subset_words, told_act, told_stand
from floorpowers.texts import read_act, read_house
from floorpowers.words import ACT_WORDS, reader_of, take_all, take_begin, take_goal, take_subset, take_word

HOUSE_WORDS = ("members", "clauses", "put", "amend", "lay", "take", "close", "end", "next", "limit")


def joined_by(word, lines):
    """Lines with a word between."""
    between = f" {word} "
    return between.join(lines)


def choices_told(lines):
    """Lines with "or" between, "none" of no line."""
    return joined_by("or", lines) if lines else "none"


def take_lot_line(reader):
    """The next words, of a lot."""
    take_word(reader, ("lot",))
    return take_subset(reader)


def take_goal_line(reader):
    """The next words, of a goal."""
    take_word(reader, ("goal",))
    return take_goal(reader)


def house_so_far(lines):
    """The house of its first lines, None where lines lack behind them."""
    try:
        return read_house("\n".join(lines))
    except BadWords as fault:
        if fault.line == len(lines):
            return None
        raise


class Desk:
    """What is told so far: a house line by line, a sitting of it, a lot and a goal, and who is led."""

    def __init__(self):
        self._lines = []
        self._seat = None
        self._live = None
        self._led = None
        self._lot = ()
        self._goal = ()

    @property
    def house(self):
        """The house, None if none is told."""
        return self._seat

    @property
    def sitting(self):
        """The sitting, of the led one if a lot is led; None if there is none."""
        return self._live

    @property
    def led_one(self):
        """The led sitting, None if no lot is led."""
        return self._led

    def say(self, line):
        """The answer to any value."""
        if not isinstance(line, str) or "\n" in line:
            return "no"
        try:
            return self.answer_to(str(line))
        except FloorError:
            return "no"

    def answer_to(self, line):
        """The answer to a line; an error of one that is to be answered with "no"."""
        word = line.split(" ")[0]
        if word in HOUSE_WORDS:
            return self.house_line(line, word)
        if word == "begin" and self._seat is not None:
            return self.begin_line(line)
        if self._live is None:
            return "no"
        if word in ACT_WORDS:
            return self.act_line(line)
        if word == "lot":
            self._lot = take_all(reader_of(line), take_lot_line)
            return "done"
        if word == "goal":
            self._goal = take_all(reader_of(line), take_goal_line)
            return "done"
        if line in ("force", "bar"):
            return self.leading_line(line)
        if line == "back":
            return self.back_line()
        told = self.told_of_sitting(line)
        return self.answer_of_led(line) if told is None else told

    def house_line(self, line, word):
        """A line of a house is told: what was sat and led is left."""
        lines = [line] if word == "members" else self._lines + [line]
        seat = house_so_far(lines)
        self._lines = lines
        self._seat = seat
        self._live = None
        self._led = None
        return "done"

    def begin_line(self, line):
        """A sitting begins."""
        text, member = take_all(reader_of(line), take_begin)
        self._live = Sitting(self._seat, beginning(self._seat, text, member))
        self._led = None
        return "done"

    def act_line(self, line):
        """An act is done, of one of the others if a lot is led."""
        act = read_act(self._seat, line)
        if self._led is None:
            self._live.do(act)
        elif act[0] == "vote":
            self._led.vote(act[1])
        else:
            self._led.hear(act)
        return told_stand(self._live.stand) if self._live.is_at_end else "done"

    def leading_line(self, word):
        """The lot is led from here on, if it can force the goal, or bar it."""
        try:
            led = Led(self._seat, self._live.stand, self._lot, self._goal, word)
        except BadPaper:
            return "no plan"
        self._led = led
        self._live = led.own_sitting()
        return "done"

    def back_line(self):
        """The last act is taken back."""
        try:
            self._live.undo()
        except NothingBack:
            return "nothing"
        return "done"

    def told_of_sitting(self, word):
        """What a word asks of the sitting, None of any other word."""
        if word == "may":
            return choices_told([told_act(act) for act in self._live.may()])
        if word == "carriers":
            return choices_told([subset_words(lot) for lot in self._live.carriers()])
        if word == "stand":
            return told_stand(self._live.stand)
        if word == "row":
            return joined_by("then", row_lines(self._live.row))
        if word == "short":
            return joined_by("then", short_lines(Hall(self._seat), self._live.way_done(), self._live.row))
        return None

    def answer_of_led(self, word):
        """The answer to a word that asks the led lot, or leaves it; "no" to any other word."""
        if self._led is None:
            return "no"
        if word == "due":
            return self._led.due()
        if word == "go":
            return told_act(self._led.go())
        if word == "left":
            return bare_words(self._led.acts_left())
        if word == "stop":
            self._led = None
            return "done"
        return "no"

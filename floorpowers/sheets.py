"""Sheets: a house, a beginning, rows, lots and goals by their names, and verdicts on them."""

from floorpowers.acts import need_acts_in
from floorpowers.halls import Hall
from floorpowers.houses import member_count, need_goal_in, need_house, need_text_in
from floorpowers.members import need_lot_below, need_member_among
from floorpowers.powers import can_bar, can_force
from floorpowers.reach import web_steps
from floorpowers.rows import way_in_order
from floorpowers.stands import beginning
from floorpowers.telling import short_lines
from floorpowers.words import (ACT_WORDS, end_line, has_line, need_here, reader_of, take_act, take_begin, take_goal,
                               take_house, take_integer, take_stand, take_subset, take_word, word_here)

SORTS = ("row", "lot", "goal")
VERDICTS = ("ends", "breaks", "stands", "forces", "bars", "comes", "same", "short")
MOST_NAME = 8
MOST_ACTS = 60


class Sheet:
    """What a sheet tells: things as triples of their sort, their name and themselves, verdicts as tuples."""

    def __init__(self, told, begin, things, verdicts):
        self.told = told
        self.begin = begin
        self.things = things
        self.verdicts = verdicts


def is_name(word):
    """Whether a word, or None, is a name."""
    return word is not None and word.isascii() and word.isalpha() and word.islower() and len(word) <= MOST_NAME


def take_name(reader):
    """The next word, a name."""
    word = word_here(reader)
    need_here(reader, is_name(word))
    return take_word(reader, (word,))


def take_acts(reader):
    """The next lines, of few acts, perhaps of none."""
    acts = []
    while word_here(reader) in ACT_WORDS and len(acts) < MOST_ACTS:
        acts.append(take_act(reader))
        end_line(reader)
    return tuple(acts)


def take_thing(reader):
    """The next lines, of a thing with its name."""
    sort = take_word(reader, SORTS)
    name = take_name(reader)
    if sort == "row":
        end_line(reader)
        return (sort, name, take_acts(reader))
    thing = take_subset(reader) if sort == "lot" else take_goal(reader)
    end_line(reader)
    return (sort, name, thing)


def take_verdict(reader):
    """The next line, of a verdict."""
    word = take_word(reader, VERDICTS)
    told = [take_name(reader)]
    if word == "ends":
        told.append(take_subset(reader))
    elif word in ("forces", "bars", "same"):
        told.append(take_name(reader))
    elif word != "comes":
        told.append(take_integer(reader))
    if word == "stands":
        told.append(take_stand(reader))
    end_line(reader)
    return (word, tuple(told))


def take_sheet(reader):
    """All lines, of a sheet."""
    told = take_house(reader)
    begin = take_begin(reader)
    end_line(reader)
    things = []
    while has_line(reader) and word_here(reader) not in VERDICTS:
        things.append(take_thing(reader))
    verdicts = []
    while has_line(reader):
        verdicts.append(take_verdict(reader))
    return Sheet(told, begin, things, verdicts)


def need_thing(house, sort, thing):
    """What is refused of a row, in order or not, a lot or a goal of a house that is checked."""
    if sort == "lot":
        need_lot_below(member_count(house), thing)
    elif sort == "goal":
        need_goal_in(house, thing)
    else:
        need_acts_in(house, thing)


def sheet_of(text):
    """What a text tells that is a sheet."""
    sheet = take_sheet(reader_of(text))
    need_house(sheet.told)
    need_text_in(sheet.told, sheet.begin[0])
    need_member_among(member_count(sheet.told), sheet.begin[1])
    for sort, _, thing in sheet.things:
        need_thing(sheet.told, sort, thing)
    return sheet


def named(sheet, sort):
    """The things of a sort by their names; the last one of a name counts."""
    return {name: thing for each, name, thing in sheet.things if each == sort}


def sheet_told(text):
    """The house, the beginning, and the pairs, ascending, of names and rows, lots and goals, that a sheet tells."""
    sheet = sheet_of(text)
    begin = beginning(sheet.told, sheet.begin[0], sheet.begin[1])
    rows, lots, goals = [tuple(sorted(list(named(sheet, sort).items()))) for sort in SORTS]
    return (sheet.told, begin, rows, lots, goals)


class Court:
    """What verdicts speak of."""

    def __init__(self, sheet):
        self.seat = sheet.told
        self.begin = beginning(sheet.told, sheet.begin[0], sheet.begin[1])
        self.rows = named(sheet, "row")
        self.lots = named(sheet, "lot")
        self.goals = named(sheet, "goal")


def way_from(court, name):
    """The row of a name, and the stands on its way as far as it is in order; None if there is no such row."""
    if name not in court.rows:
        return None
    row = court.rows[name]
    return (row, way_in_order(court.seat, court.begin, row))


def is_row_whole(told):
    """Whether there is a row of a name, that is in order."""
    return told is not None and len(told[1]) == len(told[0]) + 1


def is_row_so(court, word, told, things):
    """Whether a verdict on a row is so: told are the row and its way, things stand behind its name."""
    row, way = told
    if word == "breaks":
        return not is_row_whole(told) and things[0] == len(way) - 1
    if word == "stands":
        return 0 <= things[0] < len(way) and way[things[0]] == things[1]
    if not is_row_whole(told):
        return False
    if word == "ends":
        return way[-1] == ("over", things[0])
    if word == "short":
        return len(short_lines(Hall(court.seat), way, row)) == things[0]
    other = way_from(court, things[0])
    return is_row_whole(other) and other[1][-1] == way[-1]


def does_goal_come(court, goal):
    """Whether some row comes to be over with a text of a goal."""
    return any([here[0] == "over" and here[1] in goal for here in web_steps(court.seat, court.begin)])


def is_so(court, word, things):
    """Whether a verdict is so."""
    if word == "comes":
        return things[0] in court.goals and does_goal_come(court, court.goals[things[0]])
    if word in ("forces", "bars"):
        if things[0] not in court.lots or things[1] not in court.goals:
            return False
        does_hold = can_force if word == "forces" else can_bar
        return does_hold(court.seat, court.begin, court.lots[things[0]], court.goals[things[1]])
    told = way_from(court, things[0])
    return told is not None and is_row_so(court, word, told, things[1:])


def judged(text):
    """Whether each verdict of a sheet is so."""
    sheet = sheet_of(text)
    court = Court(sheet)
    return tuple([is_so(court, word, things) for word, things in sheet.verdicts])

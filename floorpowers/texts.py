"""Texts: houses, motions, acts, rows and stands as lines of words, short texts of rows, and reading all these."""

from floorpowers.acts import is_act, need_act_in, need_acts_in
from floorpowers.errors import BadRow
from floorpowers.halls import Hall, behind_act, behind_vote, carries_kind, is_act_in_order, is_question
from floorpowers.houses import need_house
from floorpowers.motions import need_motion_in
from floorpowers.rows import way_of
from floorpowers.stands import need_stand, need_stand_in
from floorpowers.subsets import all_subsets
from floorpowers.telling import row_lines, short_lines, told_act, told_house, told_motion, told_stand
from floorpowers.values import plain
from floorpowers.words import (reader_of, end_text, take_act, take_all, take_house, take_motion, take_row,
                               take_shorts, take_stand)


def house_text(house):
    """The text of a house."""
    return told_house(plain(need_house(house)))


def motion_text(house, motion):
    """The text of a motion."""
    need_house(house)
    return told_motion(plain(need_motion_in(house, motion)))


def act_text(house, act):
    """The text of an act."""
    need_house(house)
    return told_act(plain(need_act_in(house, act)))


def row_text(house, row):
    """The text of a row, in order or not."""
    need_house(house)
    return "\n".join(row_lines(plain(need_acts_in(house, row))))


def stand_text(house, stand):
    """The text of a stand."""
    return told_stand(plain(need_stand(house, stand)))


def read_house(text):
    """The house of a text."""
    reader = reader_of(text)
    house = take_house(reader)
    end_text(reader)
    return need_house(house)


def read_motion(house, text):
    """The motion of a text."""
    need_house(house)
    return need_motion_in(house, take_all(reader_of(text), take_motion))


def read_act(house, text):
    """The act of a text."""
    need_house(house)
    return need_act_in(house, take_all(reader_of(text), take_act))


def read_row(house, text):
    """The row of a text, in order or not."""
    need_house(house)
    return need_acts_in(house, take_row(reader_of(text)))


def read_stand(house, text):
    """The stand of a text."""
    need_house(house)
    return need_stand_in(house, take_all(reader_of(text), take_stand))


def short_text(house, stand, row):
    """The short text of a row that is in order."""
    way = way_of(house, stand, row)
    return "\n".join(short_lines(Hall(house), way, plain(row)))


def least_carrying(hall, kind):
    """The lot with the fewest members, of these the first, that carries with the share of a kind, None if none does."""
    lots = [lot for lot in all_subsets(hall.many) if carries_kind(hall, kind, lot)]
    return min([(len(lot), lot) for lot in lots])[1] if lots else None


def vote_by_word(hall, stand, word):
    """The vote that a word of a short text tells at a stand, None if there is none, or the other word tells it."""
    if not is_question(hall, stand):
        return None
    if word == "no":
        return ("vote", ())
    lot = least_carrying(hall, stand[3][-1][0])
    if lot is None or behind_vote(hall, stand, True) == behind_vote(hall, stand, False):
        return None
    return ("vote", lot)


def acts_told(house, hall, stand, told):
    """The acts of what a line of a short text tells; None where there are none at a stand."""
    if isinstance(told, int):
        return [("pass",)] * told
    if isinstance(told, str):
        vote = vote_by_word(hall, stand, told)
        return None if vote is None else [vote]
    return [told] if is_act(house, told) else None


def read_short(house, stand, text):
    """The row of a short text for a stand."""
    need_stand(house, stand)
    hall = Hall(house)
    here = plain(stand)
    row = []
    for number, told in enumerate(take_shorts(reader_of(text))):
        acts = acts_told(house, hall, here, told)
        if acts is None:
            raise BadRow(number)
        for act in acts:
            if not is_act_in_order(hall, here, act):
                raise BadRow(number)
            here = behind_act(hall, here, act)
        row.extend(acts)
    return tuple(row)

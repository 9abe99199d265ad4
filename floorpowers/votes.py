"""Votes: what a lot can make of one, and the stands behind it."""

from floorpowers.errors import BadStand
from floorpowers.halls import Hall, behind_vote, carries_kind, first_carrying, is_question
from floorpowers.houses import member_count, need_house, need_kind
from floorpowers.members import need_lot_below
from floorpowers.stands import need_stand
from floorpowers.subsets import rest_of
from floorpowers.values import plain


def side_of(does_lot, do_others):
    """What a lot can make of a vote, by whether it carries and whether its others do."""
    if does_lot:
        return "up" if do_others else "decides"
    return "others" if do_others else "down"


def side_in(hall, kind, lot):
    """What a lot can make of a vote on a motion of a kind; nothing is checked."""
    return side_of(carries_kind(hall, kind, lot), carries_kind(hall, kind, rest_of(hall.many, lot)))


def sides_of(house, kind, lot):
    """Whether a lot decides a vote on a motion of a kind, the others do, or each can keep it down or bring it up."""
    need_house(house)
    need_kind(house, kind)
    need_lot_below(member_count(house), lot)
    return side_in(Hall(house), kind, lot)


def up_and_down(hall, stand):
    """The stands behind a vote that carries, None if there is none, and behind one that doesn't."""
    is_ever_carried = first_carrying(hall, stand[3][-1][0]) is not None
    return (behind_vote(hall, stand, True) if is_ever_carried else None, behind_vote(hall, stand, False))


def vote_stands(house, stand):
    """The stands behind a vote that carries, None if there is none, and behind one that doesn't."""
    need_stand(house, stand)
    hall = Hall(house)
    here = plain(stand)
    if not is_question(hall, here):
        raise BadStand("put")
    return up_and_down(hall, here)

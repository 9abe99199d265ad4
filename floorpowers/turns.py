"""Turns: who has the floor behind whom, and which kinds may be moved."""

from floorpowers.errors import BadNumber
from floorpowers.halls import Hall, is_question, may_be_moved
from floorpowers.houses import book_kinds, member_count, need_house, need_kind
from floorpowers.members import need_member_among
from floorpowers.stands import need_stand
from floorpowers.values import is_natural, plain


def turns_in(follow, member):
    """The turns from a member on that come once, and those that come round again and again."""
    turns = [member]
    while follow[turns[-1]] not in turns:
        turns.append(follow[turns[-1]])
    start = turns.index(follow[turns[-1]])
    return (tuple(turns[:start]), tuple(turns[start:]))


def turns_from(house, member):
    """The turns from a member on: the way of those that come once, and the ring."""
    need_house(house)
    need_member_among(member_count(house), member)
    return turns_in(plain(house[3]), plain(member))


def turn_after(house, member, number):
    """Who has the turn behind so many turns of a member."""
    way, ring = turns_from(house, member)
    if not is_natural(number):
        raise BadNumber(number)
    if number < len(way):
        return way[number]
    return ring[(int(number) - len(way)) % len(ring)]


def turns_to(house, member, other):
    """Behind how many turns from a member on another one has it first, None if it never has."""
    way, ring = turns_from(house, member)
    need_member_among(member_count(house), other)
    turns = way + ring
    return turns.index(other) if other in turns else None


def has_floor(hall, stand, member):
    """Whether a member has the floor in a stand."""
    return stand[0] == "floor" and not is_question(hall, stand) and stand[5] == member


def may_member_move(hall, stand, member, kind):
    """Whether a member may move a kind in a stand; of no kind whether it has the floor."""
    return has_floor(hall, stand, member) and (kind is None or may_be_moved(hall, stand, kind))


def need_kind_or_none(house, kind):
    """The kind itself, of the book of a house that is checked, or None."""
    return kind if kind is None else need_kind(house, kind)


def kinds_open(house, stand):
    """The kinds, in the book's turn, that whoever has the floor may move; () if nobody has it."""
    need_stand(house, stand)
    hall = Hall(house)
    here = plain(stand)
    return tuple([kind for kind in book_kinds(house) if may_be_moved(hall, here, kind)])


def can_move(house, stand, member, kind):
    """Whether a member may move a kind in a stand; of no kind whether it has the floor."""
    need_stand(house, stand)
    need_member_among(member_count(house), member)
    need_kind_or_none(house, kind)
    return may_member_move(Hall(house), plain(stand), member, kind)

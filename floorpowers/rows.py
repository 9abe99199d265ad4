"""Rows of acts: the stands on their way, their bare forms, and how long they can be."""

from floorpowers.acts import is_act
from floorpowers.errors import BadRow
from floorpowers.halls import Hall, behind_act, carries_kind, is_act_in_order
from floorpowers.motions import motion_fault
from floorpowers.stands import need_stand
from floorpowers.values import plain


def way_in_order(house, stand, row):
    """The stands on the way of a tuple of anything, as far as it is in order; house and stand are checked.

    If all of it is in order they are one more than its acts; otherwise the last one is where it goes wrong.
    """
    hall = Hall(house)
    way = [plain(stand)]
    for act in row:
        if not is_act(house, act) or not is_act_in_order(hall, way[-1], act):
            break
        way.append(behind_act(hall, way[-1], plain(act)))
    return tuple(way)


def need_way_in(house, stand, row):
    """The stands on the way of a row in order; house and stand are checked."""
    if not isinstance(row, tuple):
        raise BadRow(None)
    way = way_in_order(house, stand, row)
    if len(way) <= len(row):
        raise BadRow(len(way) - 1)
    return way


def need_row(house, stand, row):
    """The row itself."""
    way_of(house, stand, row)
    return row


def way_of(house, stand, row):
    """The stands on the way of a row: the first one and those behind each act."""
    need_stand(house, stand)
    return need_way_in(house, stand, row)


def last_stand(house, stand, row):
    """The last stand on the way of a row."""
    return way_of(house, stand, row)[-1]


def text_after(house, stand, row):
    """The text that stands behind a row, over or not."""
    return last_stand(house, stand, row)[1]


def bare_form(house, stand, row):
    """The motions moved and, for each vote, whether it carries, in turn."""
    way = way_of(house, stand, row)
    hall = Hall(house)
    bare = []
    for here, act in zip(way, plain(row)):
        if act[0] == "move":
            bare.append(act[1])
        elif act[0] == "vote":
            bare.append(carries_kind(hall, here[3][-1][0], act[1]))
    return tuple(bare)


def acts_for_vote(hall, stand, is_carried):
    """The fewest acts by which the question is put and carried, or isn't; None if that can't come."""
    if stand[0] == "over" or not stand[3]:
        return None
    everybody = tuple(range(hall.many))
    if is_carried and not carries_kind(hall, stand[3][-1][0], everybody):
        return None
    return [("pass",)] * (hall.many - stand[6]) + [("vote", everybody if is_carried else ())]


def acts_for(house, hall, stand, thing):
    """The acts of the least row for one thing of a bare form, which may be any value; None if it can't come."""
    if isinstance(thing, bool):
        return acts_for_vote(hall, stand, thing)
    if motion_fault(house, thing) or not is_act_in_order(hall, stand, ("move", thing)):
        return None
    return [("move", plain(thing))]


def row_of_bare(house, stand, bare):
    """The least row with a bare form."""
    need_stand(house, stand)
    if not isinstance(bare, tuple):
        raise BadRow(None)
    hall = Hall(house)
    here = plain(stand)
    row = []
    for number, thing in enumerate(bare):
        acts = acts_for(house, hall, here, thing)
        if acts is None:
            raise BadRow(number)
        for act in acts:
            here = behind_act(hall, here, act)
        row.extend(acts)
    return tuple(row)


def bound_of(house, stand):
    """How many acts a row in order has at most; 0 if the sitting is over, None if there is no limit."""
    need_stand(house, stand)
    if stand[0] == "over":
        return 0
    if stand[7] is None:
        return None
    return (3 * int(stand[7]) + 2 * len(stand[3]) + 1) * (len(house[0]) + 1)


def is_quiet(house, stand):
    """Whether a stand is on the floor and nothing is pending."""
    need_stand(house, stand)
    return stand[0] == "floor" and len(stand[3]) == 0

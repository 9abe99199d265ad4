"""Acts: moves, passes and votes, which of them are in order, and where they lead."""

from floorpowers.errors import BadAct, BadRow
from floorpowers.halls import Hall, acts_in, behind_act, first_steps, is_act_in_order
from floorpowers.houses import member_count, need_house
from floorpowers.motions import motion_fault
from floorpowers.stands import need_stand
from floorpowers.subsets import subset_fault
from floorpowers.values import is_tuple_of, is_word_of, plain


def is_act(house, value):
    """Whether any value is an act of a house, which is checked."""
    if is_tuple_of(value, 1):
        return is_word_of(value[0], ("pass",))
    if not is_tuple_of(value, 2):
        return False
    if is_word_of(value[0], ("move",)):
        return motion_fault(house, value[1]) == ()
    return is_word_of(value[0], ("vote",)) and subset_fault(member_count(house), value[1]) == ()


def need_act_in(house, act):
    """The act itself, of a house that is checked."""
    if not is_act(house, act):
        raise BadAct(None)
    return act


def need_act(house, act):
    """The act itself."""
    need_house(house)
    return need_act_in(house, act)


def need_acts_in(house, row):
    """A tuple of acts itself, in order or not, of a house that is checked."""
    if not isinstance(row, tuple):
        raise BadRow(None)
    for number, act in enumerate(row):
        if not is_act(house, act):
            raise BadRow(number)
    return row


def acts_at(house, stand):
    """All acts in order, ascending."""
    need_stand(house, stand)
    return tuple(acts_in(Hall(house), plain(stand)))


def is_in_order(house, stand, act):
    """Whether an act is in order in a stand."""
    need_stand(house, stand)
    need_act_in(house, act)
    return is_act_in_order(Hall(house), plain(stand), act)


def done(house, stand, act):
    """The stand to which an act leads."""
    need_stand(house, stand)
    need_act_in(house, act)
    hall = Hall(house)
    here = plain(stand)
    if not is_act_in_order(hall, here, act):
        raise BadAct("order")
    return behind_act(hall, here, plain(act))


def outcomes(house, stand):
    """All stands to which one act leads, each once, in the turn of the first act that leads there."""
    need_stand(house, stand)
    return tuple([behind for _, behind in first_steps(Hall(house), plain(stand))])

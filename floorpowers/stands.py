"""Stands: where a sitting of a house is, or that it is over with a text."""

from floorpowers.errors import BadStand
from floorpowers.houses import book_rules, member_count, need_house, need_member, need_text, text_fault
from floorpowers.motions import has_motion_form, motion_fault
from floorpowers.values import is_integer_from, is_tuple_of, is_word_of, plain

LOWEST_KINDS = ("put", "take", "end")


def has_stand_form(value):
    """Whether any value is a tuple with "over" or "floor" first and as many things as it has."""
    if not isinstance(value, tuple) or not value or not is_word_of(value[0], ("over", "floor")):
        return False
    return is_tuple_of(value, 2 if value[0] == "over" else 8)


def is_pile_motion(house, value):
    """Whether any value is a motion as it may lie in a pile: a put there may have come to have no clauses."""
    if has_motion_form(house, value) and value[0] == "put":
        return text_fault(house, value[1]) == ()
    return motion_fault(house, value) == ()


def is_pile(house, value, table, is_closed):
    """Whether any value is the pile of a stand with this on its table, which is told; is_closed may be any value."""
    if not isinstance(value, tuple) or not all([is_pile_motion(house, motion) for motion in value]):
        return False
    kinds = [motion[0] for motion in value]
    rules = book_rules(house)
    ranks = [rules[kind][0] for kind in kinds]
    if not all([low < high for low, high in zip(ranks, ranks[1:])]):
        return False
    return not kinds or are_pile_kinds(kinds, table is not None, is_closed is True)


def are_pile_kinds(kinds, has_table, is_closed):
    """Whether pending motions may be of these kinds, the lowest one first; there is one at least."""
    lowest = kinds[0]
    if lowest not in LOWEST_KINDS or "put" in kinds[1:] or "take" in kinds[1:]:
        return False
    if lowest == "take" and not has_table:
        return False
    if lowest != "put" and ("amend" in kinds or "lay" in kinds):
        return False
    return not (is_closed and "close" in kinds)


def floor_fault(house, stand):
    """The fault of what has the form of a stand on the floor."""
    _, text, table, pile, is_closed, turn, passes, left = stand
    if text_fault(house, text):
        return ("text",)
    if table is not None and text_fault(house, table):
        return ("table",)
    if not is_pile(house, pile, table, is_closed):
        return ("pile",)
    if not isinstance(is_closed, bool) or (is_closed and not pile):
        return ("closed",)
    many = member_count(house)
    if not is_integer_from(turn, 0, many - 1):
        return ("turn",)
    if not is_integer_from(passes, 0, many if pile else many - 1):
        return ("passes",)
    return () if is_left(house, left) else ("left",)


def is_left(house, value):
    """Whether any value tells how many motions may still be moved."""
    limit = house[4]
    return value is None if limit is None else is_integer_from(value, 0, limit)


def stand_fault(house, value):
    """The fault of what is no stand of a house, which is checked: None, or the first part that isn't as told."""
    if not has_stand_form(value):
        return (None,)
    if value[0] == "floor":
        return floor_fault(house, value)
    return ("text",) if text_fault(house, value[1]) else ()


def need_stand_in(house, stand):
    """The stand itself, of a house that is checked."""
    fault = stand_fault(house, stand)
    if fault:
        raise BadStand(fault[0])
    return stand


def need_stand(house, stand):
    """The stand itself."""
    need_house(house)
    return need_stand_in(house, stand)


def is_stand(house, value):
    """Whether any value is a stand of the house."""
    need_house(house)
    return stand_fault(house, value) == ()


def beginning(house, text, member):
    """The stand in which a sitting begins, with this text, where this member has the turn."""
    need_text(house, text)
    need_member(house, member)
    return ("floor", plain(text), None, (), False, int(member), 0, plain(house[4]))


def pending(house, stand):
    """The pile of pending motions, () if the sitting is over."""
    need_stand(house, stand)
    return () if stand[0] == "over" else plain(stand[3])


def is_put(house, stand):
    """Whether the question is put."""
    need_stand(house, stand)
    return stand[0] == "floor" and stand[6] == member_count(house)


def is_over(house, stand):
    """Whether the sitting is over."""
    need_stand(house, stand)
    return stand[0] == "over"

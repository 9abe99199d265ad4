"""Families of lots: which lots are in them, the contrary, both, either, and who is as strong as whom."""

from floorpowers.errors import BadFamily, TooGreat
from floorpowers.members import need_lot_below, need_many, need_member_among
from floorpowers.subsets import all_subsets, exchanged, is_over_one, is_within, least_of_closed, rest_of, subset_fault

# How many families there are of 0, 1, 2 .. members: no short rule is known that tells these numbers.
FAMILY_COUNTS = (2, 3, 6, 20, 168, 7581)
MOST_FAMILIES = 200


def family_fault(many, value):
    """The fault of what is no family: None, or the number of the first thing that may not stand there."""
    if not isinstance(value, tuple):
        return (None,)
    for number, lot in enumerate(value):
        if subset_fault(many, lot) or not may_stand_behind(value[:number], lot):
            return (number,)
    return ()


def may_stand_behind(lots, lot):
    """Whether a lot may stand in a family right behind lots: above each, none within the other."""
    return all([ahead < lot and not is_within(ahead, lot) and not is_within(lot, ahead) for ahead in lots])


def need_family_below(many, family):
    """The family itself, of so many members, which are checked."""
    fault = family_fault(many, family)
    if fault:
        raise BadFamily(fault[0])
    return family


def need_family(many, family):
    """The family itself."""
    need_many(many)
    return need_family_below(many, family)


def need_lots(many, lots):
    """Lots in any order, themselves; many is checked."""
    if not isinstance(lots, tuple):
        raise BadFamily(None)
    for number, lot in enumerate(lots):
        if subset_fault(many, lot):
            raise BadFamily(number)
    return lots


def is_in_family(many, family, lot):
    """Whether a lot is in a family."""
    need_family(many, family)
    need_lot_below(many, lot)
    return is_over_one(family, lot)


def lots_over(many, lots):
    """All lots, ascending, within which one of some lots lies; nothing is checked."""
    return tuple([lot for lot in all_subsets(many) if is_over_one(lots, lot)])


def lots_in(many, family):
    """All lots that are in a family, ascending."""
    need_family(many, family)
    return lots_over(many, family)


def family_from(many, lots):
    """The family of all lots within which one of some lots lies."""
    need_many(many)
    need_lots(many, lots)
    return least_of_closed(lots_over(many, lots))


def contrary(many, family):
    """The family of the lots that bar: those whose others aren't in the family."""
    need_family(many, family)
    return least_of_closed([lot for lot in all_subsets(many) if not is_over_one(family, rest_of(many, lot))])


def both_of(many, family, far_family):
    """The family of the lots that are in both."""
    need_family(many, family)
    need_family_below(many, far_family)
    return least_of_closed([lot for lot in lots_over(many, family) if is_over_one(far_family, lot)])


def either_of(many, family, far_family):
    """The family of the lots that are in one of both at least."""
    need_family(many, family)
    need_family_below(many, far_family)
    return least_of_closed(lots_over(many, family + far_family))


def who_matters(many, family):
    """The lot of those who stand in a least lot."""
    need_family(many, family)
    return tuple([member for member in range(many) if any([member in lot for lot in family])])


def who_is_needed(many, family):
    """The lot of those who stand in each lot that is in the family: it is enough that each least one has them."""
    need_family(many, family)
    return tuple([member for member in range(many) if all([member in lot for lot in family])])


def who_is_enough(many, family):
    """The lot of those who are in the family alone."""
    need_family(many, family)
    return tuple([member for member in range(many) if is_over_one(family, (member,))])


def lost_by(family, member, far_member):
    """A least lot with far_member, without member, that isn't in the family with member in its place, or None.

    The least lots tell for all: a greater lot has one within it, and keeps it when members change places.
    """
    for lot in family:
        if far_member in lot and member not in lot and not is_over_one(family, exchanged(lot, far_member, member)):
            return lot
    return None


def is_as_strong(many, family, member, far_member):
    """Whether a member is as strong as another one."""
    need_family(many, family)
    need_member_among(many, member)
    need_member_among(many, far_member)
    return lost_by(family, member, far_member) is None


def unlike_pair(many, family):
    """The first two members that can't be compared, or None; nothing is checked."""
    for member in range(many):
        for far_member in range(member):
            if lost_by(family, member, far_member) is not None and lost_by(family, far_member, member) is not None:
                return (far_member, member)
    return None


def rows_by_strength(many, family):
    """The lots of those who are as strong as one another, the strongest first; all can be compared."""
    rows = []
    left = list(range(many))
    while left:
        row = [one for one in left if all([lost_by(family, one, other) is None for other in left])]
        rows.append(tuple(row))
        left = [one for one in left if one not in row]
    return tuple(rows)


def strength_rows(many, family):
    """The lots of those who are as strong as one another, the strongest first; None if two can't be compared."""
    need_family(many, family)
    if unlike_pair(many, family) is not None:
        return None
    return rows_by_strength(many, family)


def family_count(many):
    """How many families of so many members there are."""
    return FAMILY_COUNTS[need_many(many)]


def all_families(many):
    """All families of so many members, ascending."""
    if family_count(many) > MOST_FAMILIES:
        raise TooGreat(MOST_FAMILIES)
    families = [()]
    for lot in all_subsets(many):
        families = families + [family + (lot,) for family in families if may_stand_behind(family, lot)]
    return tuple(sorted(families))

"""Members with weights, their lots, and which lots carry."""

from floorpowers.errors import BadHouse, BadLot, BadMember, BadNumber, BadShare
from floorpowers.subsets import all_subsets, is_within, least_of_closed, rest_of, subset_fault
from floorpowers.values import is_integer_from, is_tuple_of

MOST_MEMBERS = 5
MOST_WEIGHT = 99
MOST_PARTS = 9


def are_weights(value):
    """Whether any value is the WEIGHTS of a house."""
    if not isinstance(value, tuple) or not 1 <= len(value) <= MOST_MEMBERS:
        return False
    return all([is_integer_from(weight, 1, MOST_WEIGHT) for weight in value])


def need_weights(weights):
    """The weights themselves."""
    if not are_weights(weights):
        raise BadHouse("weights")
    return weights


def is_share(value):
    """Whether any value is a SHARE."""
    if not is_tuple_of(value, 3):
        return False
    parts, whole, is_more = value
    if not is_integer_from(whole, 1, MOST_PARTS) or not is_integer_from(parts, 1, whole):
        return False
    return isinstance(is_more, bool)


def need_share(share):
    """The share itself."""
    if not is_share(share):
        raise BadShare(share)
    return share


def need_many(many):
    """The number of members itself."""
    if not is_integer_from(many, 1, MOST_MEMBERS):
        raise BadNumber(many)
    return many


def need_member_among(many, member):
    """The member itself, of so many, which are checked."""
    if not is_integer_from(member, 0, many - 1):
        raise BadMember(member)
    return member


def need_lot_below(many, lot):
    """The lot itself, of so many members, which are checked."""
    fault = subset_fault(many, lot)
    if fault:
        raise BadLot(fault[0])
    return lot


def need_lot_among(many, lot):
    """The lot itself."""
    need_many(many)
    return need_lot_below(many, lot)


def every_lot(many):
    """All lots, ascending."""
    return all_subsets(need_many(many))


def others_of(many, lot):
    """The lot of those who aren't in a lot."""
    need_lot_among(many, lot)
    return rest_of(many, lot)


def is_lot_within(many, lot, far_lot):
    """Whether the first lot is within the second one."""
    need_lot_among(many, lot)
    need_lot_below(many, far_lot)
    return is_within(lot, far_lot)


def lot_weight(weights, lot):
    """What the members of a lot weigh together; nothing is checked."""
    return sum([weights[member] for member in lot])


def does_carry(weights, share, lot):
    """Whether a lot carries; nothing is checked."""
    parts, whole, is_more = share
    mine = whole * lot_weight(weights, lot)
    bound = parts * sum(weights)
    return mine > bound if is_more else mine >= bound


def carrying_family(weights, share):
    """The family of the lots that carry; nothing is checked."""
    return least_of_closed([lot for lot in all_subsets(len(weights)) if does_carry(weights, share, lot)])


def weight_of(weights, lot):
    """What the members of a lot weigh together."""
    need_weights(weights)
    need_lot_below(len(weights), lot)
    return lot_weight(weights, lot)


def carries(weights, share, lot):
    """Whether a lot carries with a share."""
    need_weights(weights)
    need_share(share)
    need_lot_below(len(weights), lot)
    return does_carry(weights, share, lot)


def carrying(weights, share):
    """The family of the lots that carry with a share."""
    need_weights(weights)
    need_share(share)
    return carrying_family(weights, share)

"""Weighings: whether loads and a quota tell a family, which least ones do, and which shares."""

from floorpowers.errors import BadHouse, BadPaper
from floorpowers.families import lost_by, need_family, need_family_below, rows_by_strength, unlike_pair
from floorpowers.members import MOST_PARTS, carrying_family, need_many, need_share, need_weights
from floorpowers.subsets import all_subsets, exchanged, is_over_one, least_of_closed, subset_fault
from floorpowers.values import is_integer_from, is_tuple_of, is_word_of

MOST_LOAD = 99
MOST_QUOTA = 500


def is_weighing(many, value):
    """Whether any value is a WEIGHING of so many members."""
    if not is_tuple_of(value, 2) or not is_tuple_of(value[0], many):
        return False
    return all([is_integer_from(load, 0, MOST_LOAD) for load in value[0]]) and is_integer_from(value[1], 0, MOST_QUOTA)


def load_of(loads, lot):
    """The loads of a lot together."""
    return sum([loads[member] for member in lot])


def family_weighed(many, loads, quota):
    """The family of a weighing; nothing is checked."""
    return least_of_closed([lot for lot in all_subsets(many) if load_of(loads, lot) >= quota])


def weighed_family(many, weighing):
    """The family of a weighing."""
    need_many(many)
    if not is_weighing(many, weighing):
        raise BadPaper("weighing")
    return family_weighed(many, weighing[0], weighing[1])


def is_weighed(many, family):
    """Whether a family is that of some weighing: exactly if any two members can be compared."""
    need_family(many, family)
    return unlike_pair(many, family) is None


def low_loads(many, family):
    """For each member a load below which no weighing of the family goes.

    Who matters has 1 at least, and who is stronger than another one has more than that one.
    """
    lows = [0] * many
    low = 0
    for row in reversed(rows_by_strength(many, family)):
        if low > 0 or any([row[0] in lot for lot in family]):
            low += 1
        for member in row:
            lows[member] = low
    return tuple(lows)


def loads_summing(lows, total):
    """All loads, ascending, that are lows at least and have this sum."""
    if len(lows) == 1:
        return [(total,)]
    found = []
    for load in range(lows[0], total - sum(lows[1:]) + 1):
        found.extend([(load,) + rest for rest in loads_summing(lows[1:], total - load)])
    return found


def least_quota(family, losing, loads):
    """The least quota by which loads tell a family, losing being the lots that aren't in it; None if none does."""
    quota = max([load_of(loads, lot) + 1 for lot in losing], default=0)
    if all([load_of(loads, lot) >= quota for lot in family]):
        return quota
    return None


def found_weighing(many, family):
    """The least weighing of a family of which any two members can be compared: so there is one."""
    losing = [lot for lot in all_subsets(many) if not is_over_one(family, lot)]
    lows = low_loads(many, family)
    for total in range(sum(lows), MOST_LOAD * many + 1):
        for loads in loads_summing(lows, total):
            quota = least_quota(family, losing, loads)
            if quota is not None:
                return (loads, quota)
    return None


def least_weighing(many, family):
    """The least weighing of a family, None if it isn't weighed."""
    if not is_weighed(many, family):
        return None
    return found_weighing(many, family)


def full_weighing(many, family):
    """The weighing with 6 times the loads of the least one and 1 more each, 6 times its quota; None without one."""
    least = least_weighing(many, family)
    if least is None:
        return None
    loads, quota = least
    return (tuple([6 * load + 1 for load in loads]), 6 * quota)


def weighing_paper(many, family):
    """A paper on whether a family is weighed."""
    need_family(many, family)
    pair = unlike_pair(many, family)
    if pair is None:
        loads, quota = found_weighing(many, family)
        return ("loads", loads, quota)
    member, far_member = pair
    lot = lost_by(family, far_member, member)
    far_lot = lost_by(family, member, far_member)
    return ("swap", lot, far_lot, member, far_member)


def need_paper_form(paper):
    """The word of a paper that has the form of one."""
    if is_tuple_of(paper, 3) and is_word_of(paper[0], ("loads",)):
        return "loads"
    if is_tuple_of(paper, 5) and is_word_of(paper[0], ("swap",)):
        return "swap"
    raise BadPaper("form")


def do_loads_hold(many, family, loads, quota):
    """Whether any two values are a weighing of a family."""
    return is_weighing(many, (loads, quota)) and family_weighed(many, loads, quota) == family


def does_swap_hold(many, family, swap):
    """Whether any four values show that a family isn't weighed."""
    lot, far_lot, member, far_member = swap
    if subset_fault(many, lot) or subset_fault(many, far_lot):
        return False
    if not is_integer_from(member, 0, many - 1) or not is_integer_from(far_member, 0, many - 1):
        return False
    if member not in lot or member in far_lot or far_member in lot or far_member not in far_lot:
        return False
    if not is_over_one(family, lot) or not is_over_one(family, far_lot):
        return False
    if is_over_one(family, exchanged(lot, member, far_member)):
        return False
    return not is_over_one(family, exchanged(far_lot, far_member, member))


def check_weighing(many, family, paper):
    """The word of a paper that holds."""
    need_family(many, family)
    word = need_paper_form(paper)
    if word == "loads":
        does_hold = do_loads_hold(many, family, paper[1], paper[2])
    else:
        does_hold = does_swap_hold(many, family, paper[1:])
    if not does_hold:
        raise BadPaper(word)
    return word


def all_shares():
    """All shares, ascending."""
    shares = []
    for parts in range(1, MOST_PARTS + 1):
        for whole in range(parts, MOST_PARTS + 1):
            shares.extend([(parts, whole, False), (parts, whole, True)])
    return tuple(shares)


def shares_of(weights, family):
    """All shares, ascending, with which just the lots in a family carry."""
    need_weights(weights)
    need_family_below(len(weights), family)
    return tuple([share for share in all_shares() if carrying_family(weights, share) == family])


def weights_alike(weights, share, far_weights, far_share):
    """Whether the same lots carry by both weights and shares."""
    need_weights(weights)
    need_share(share)
    need_weights(far_weights)
    if len(far_weights) != len(weights):
        raise BadHouse("weights")
    need_share(far_share)
    return carrying_family(weights, share) == carrying_family(far_weights, far_share)

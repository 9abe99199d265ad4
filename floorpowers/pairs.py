"""Two houses side by side: what is seen at a stand, and the pairs of stands to which rows in order from both lead.

Arguments are checked ahead of this.
"""

from floorpowers.halls import Hall, acts_in, behind_act, carries_kind, is_question
from floorpowers.reach import gone_through
from floorpowers.stands import need_stand, stand_fault
from floorpowers.subsets import all_subsets
from floorpowers.values import is_tuple_of, plain


class Halls:
    """Two houses of which the acts are done in both."""

    def __init__(self, house, far_house):
        self.here = Hall(house)
        self.there = Hall(far_house)
        self.votes = unlike_votes(self.here, self.there)


def unlike_votes(hall, far_hall):
    """For each two kinds the first votes, ascending, that may lead unlike ways, as they are carried in both or not."""
    lots = all_subsets(min(hall.many, far_hall.many))
    votes = {}
    for kind in hall.rules:
        for far_kind in far_hall.rules:
            firsts = {}
            for lot in lots:
                firsts.setdefault((carries_kind(hall, kind, lot), carries_kind(far_hall, far_kind, lot)), lot)
            votes[kind, far_kind] = [("vote", lot) for lot in firsts.values()]
    return votes


def common_acts(halls, here, there):
    """The acts in order in both of two stands, of votes the first ones that may lead unlike ways."""
    if is_question(halls.here, here) and is_question(halls.there, there):
        return halls.votes[here[3][-1][0], there[3][-1][0]]
    far_acts = {act: True for act in acts_in(halls.there, there)}
    return [act for act in acts_in(halls.here, here) if act in far_acts]


def common_steps(halls, pair):
    """The acts in order in both stands of a pair, as common_acts tells them, and the pairs behind them."""
    here, there = pair
    acts = common_acts(halls, here, there)
    return [(act, (behind_act(halls.here, here, act), behind_act(halls.there, there, act))) for act in acts]


def need_places(house, stand, far_house, far_stand):
    """What is refused of two places."""
    need_stand(house, stand)
    need_stand(far_house, far_stand)


def pair_of(stand, far_stand):
    """A pair of stands, of plain values."""
    return (plain(stand), plain(far_stand))


def pair_steps(halls, first):
    """For each pair to which rows in order from both stands of the first one lead, in turn, its common_steps."""
    return gone_through(first, lambda pair: common_steps(halls, pair))


def seen_in(hall, stand):
    """What is seen at a stand: that it is over, with its text, or the acts in order."""
    return stand if stand[0] == "over" else ("floor", tuple(acts_in(hall, stand)))


def is_seen_alike(halls, pair):
    """Whether the same is seen at both stands of a pair."""
    return seen_in(halls.here, pair[0]) == seen_in(halls.there, pair[1])


def lacking_act(halls, pair):
    """The first act that is in order in the first stand of a pair and not in the other one; None if there is none."""
    here, there = pair
    far_acts = {act: True for act in acts_in(halls.there, there)}
    for act in acts_in(halls.here, here):
        if act not in far_acts:
            return act
    return None


def is_over_alone(pair):
    """Whether the first stand of a pair is over, and the other one isn't over with its text."""
    return pair[0][0] == "over" and pair[0] != pair[1]


def does_let_all(halls, pair):
    """Whether all that is in order in the first stand of a pair is so in the other one, and over is over alike."""
    return not is_over_alone(pair) and lacking_act(halls, pair) is None


def are_all_alike(halls, first):
    """Whether the same is seen at both stands of all pairs to which rows in order from both of the first one lead."""
    return all([is_seen_alike(halls, pair) for pair in pair_steps(halls, first)])


def is_stand_pair(house, far_house, value):
    """Whether any value is a pair of stands, one of each house."""
    return is_tuple_of(value, 2) and stand_fault(house, value[0]) == () and stand_fault(far_house, value[1]) == ()

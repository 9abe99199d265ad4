"""Powers: whether a lot can make that a sitting is over with a text of a goal, by the ranks of stands."""

from floorpowers.games import Play, choices_in, ranks_to
from floorpowers.houses import all_texts, member_count, need_goal_in, need_house
from floorpowers.members import need_lot_below, need_member_among
from floorpowers.reach import web_steps
from floorpowers.stands import beginning, need_stand
from floorpowers.subsets import rest_of
from floorpowers.values import plain


def need_powers(house, stand, lot, goal):
    """What is refused of a place, a lot and a goal."""
    need_stand(house, stand)
    need_lot_below(member_count(house), lot)
    need_goal_in(house, goal)


def goal_ends(stands, goal):
    """Those of some stands that are over with a text of a goal."""
    return [here for here in stands if here[0] == "over" and here[1] in goal]


def ranks_in(house, steps, lot, goal):
    """The ranks of the stands of a web that have one; nothing is checked."""
    return ranks_to(choices_in(Play(house, lot), steps), goal_ends(steps, goal))


def force_ranks(house, stand, lot, goal):
    """The ranks of all stands of the web, in its turn, None of those that have none."""
    need_powers(house, stand, lot, goal)
    steps = web_steps(house, stand)
    ranks = ranks_in(house, steps, lot, goal)
    return tuple([ranks.get(here) for here in steps])


def rank_from(house, stand, lot, goal):
    """The rank of a stand, None if it has none; nothing but the web's greatness is checked."""
    return ranks_in(house, web_steps(house, stand), lot, goal).get(plain(stand))


def force_rank(house, stand, lot, goal):
    """The rank of a stand, None if it has none."""
    need_powers(house, stand, lot, goal)
    return rank_from(house, stand, lot, goal)


def can_force(house, stand, lot, goal):
    """Whether a lot can force a goal."""
    return force_rank(house, stand, lot, goal) is not None


def can_bar(house, stand, lot, goal):
    """Whether a lot can bar a goal: its others can't force it."""
    need_powers(house, stand, lot, goal)
    return rank_from(house, stand, rest_of(member_count(house), lot), goal) is None


def forced_texts(house, member, lot, goal):
    """The goal of all texts from whose beginning with a member a lot can force a goal."""
    need_house(house)
    need_member_among(member_count(house), member)
    need_lot_below(member_count(house), lot)
    need_goal_in(house, goal)
    begins = [(text, beginning(house, text, member)) for text in all_texts(house)]
    return tuple([text for text, begin in begins if rank_from(house, begin, lot, goal) is not None])

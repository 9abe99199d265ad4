"""Goals: all of them, the least and the greatest ones, and what a lot can force, or what is barred, by these."""

from floorpowers.errors import BadFamily
from floorpowers.goalbits import goal_count, goals_in, greatest_out, least_in, number_of_goal, powers_in
from floorpowers.houses import clause_count, goal_fault, member_count, need_goal_in, need_house
from floorpowers.members import need_lot_below
from floorpowers.reach import web_steps
from floorpowers.stands import need_stand
from floorpowers.subsets import is_over_one, is_within
from floorpowers.values import plain


def need_wishes(house, wishes):
    """A tuple of goals itself, of a house that is checked."""
    if not isinstance(wishes, tuple):
        raise BadFamily(None)
    for number, goal in enumerate(wishes):
        if goal_fault(house, goal):
            raise BadFamily(number)
    return wishes


def all_goals(house):
    """All goals of a house, ascending."""
    need_house(house)
    return goals_in(clause_count(house))


def powers_from(house, stand, lot):
    """The powers of a lot in a stand, as the binary digits of an integer."""
    need_stand(house, stand)
    need_lot_below(member_count(house), lot)
    return powers_in(house, web_steps(house, stand), plain(lot))[plain(stand)]


def least_goals(house, stand, lot):
    """The least goals that a lot can force, ascending."""
    powers = powers_from(house, stand, lot)
    return least_in(clause_count(house), powers)


def greatest_barred(house, stand, lot):
    """The greatest goals that a lot can't force, ascending."""
    powers = powers_from(house, stand, lot)
    return greatest_out(clause_count(house), powers)


def is_over_some(house, wishes, goal):
    """Whether a goal has all texts of one of some goals."""
    need_house(house)
    need_wishes(house, wishes)
    need_goal_in(house, goal)
    return is_over_one(wishes, goal)


def has_less_in(wishes, goal):
    """Whether one of some goals has just some of the texts of a goal."""
    return any([other != goal and is_within(other, goal) for other in wishes])


def unlike_wishes(house, wishes):
    """Some goals, each once, as the keys of a dict, behind what is refused of them."""
    need_house(house)
    need_wishes(house, wishes)
    return {goal: True for goal in plain(wishes)}


def least_of(house, wishes):
    """Those of some goals, each once, ascending, of which no other one has just some of the texts."""
    unlike = unlike_wishes(house, wishes)
    return tuple(sorted([goal for goal in unlike if not has_less_in(unlike, goal)]))


def crossing(house, wishes):
    """The least goals, ascending, that have a text in common with each of some goals."""
    clauses = clause_count(need_house(house))
    asked = [number_of_goal(clauses, goal) for goal in unlike_wishes(house, wishes)]
    met = [1 << number for number in range(goal_count(clauses)) if all([number & each != 0 for each in asked])]
    return least_in(clauses, sum(met))

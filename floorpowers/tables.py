"""Tables: what all lots can force in a stand, who turns the scale, who is idle there, and who are alike."""

from floorpowers.goalbits import greatest_out, is_in_powers, least_in, number_of_goal, powers_in
from floorpowers.houses import clause_count, member_count, need_goal_in
from floorpowers.reach import web_steps
from floorpowers.stands import need_stand
from floorpowers.subsets import all_subsets, exchanged, least_of_closed, rest_of
from floorpowers.values import plain


def lot_powers(house, stand):
    """For each lot, ascending, its powers in a stand that is checked."""
    steps = web_steps(house, stand)
    first = plain(stand)
    return {lot: powers_in(house, steps, lot)[first] for lot in all_subsets(member_count(house))}


def powers_table(house, stand):
    """The pairs of all lots, ascending, and their least goals."""
    need_stand(house, stand)
    return tuple([(lot, least_in(clause_count(house), powers)) for lot, powers in lot_powers(house, stand).items()])


def forcing_lots(house, stand, goal):
    """For each lot whether it can force a goal."""
    need_stand(house, stand)
    need_goal_in(house, goal)
    number = number_of_goal(clause_count(house), goal)
    return {lot: is_in_powers(powers, number) for lot, powers in lot_powers(house, stand).items()}


def least_lots(house, stand, goal):
    """The least lots, ascending, that can force a goal."""
    forcing = forcing_lots(house, stand, goal)
    return least_of_closed([lot for lot in forcing if forcing[lot]])


def with_member(lot, member):
    """A lot and a member together."""
    return tuple(sorted(lot + (member,)))


def swings_of(forcing, member):
    """With how many lots a member turns the scale."""
    lots = [lot for lot in forcing if member not in lot and not forcing[lot]]
    return len([lot for lot in lots if forcing[with_member(lot, member)]])


def swings(house, stand, goal):
    """For each member with how many lots it turns the scale at a goal."""
    forcing = forcing_lots(house, stand, goal)
    return tuple([swings_of(forcing, member) for member in range(member_count(house))])


def is_idle(powers, member):
    """Whether each lot without a member has the powers that it has with it."""
    return all([powers[lot] == powers[with_member(lot, member)] for lot in powers if member not in lot])


def idle_members(house, stand):
    """The lot of those who turn the scale at no goal."""
    need_stand(house, stand)
    powers = lot_powers(house, stand)
    return tuple([member for member in range(member_count(house)) if is_idle(powers, member)])


def are_alike(powers, member, other):
    """Whether each lot with just one of two members has the powers that it has with the other one in its place."""
    lots = [lot for lot in powers if member in lot and other not in lot]
    return all([powers[lot] == powers[exchanged(lot, member, other)] for lot in lots])


def alike_members(house, stand):
    """The lots, ascending, into which all members fall, those alike together."""
    need_stand(house, stand)
    powers = lot_powers(house, stand)
    members = range(member_count(house))
    lots = {tuple([other for other in members if are_alike(powers, member, other)]): True for member in members}
    return tuple(sorted(lots))


def turned_round(house, stand):
    """The pairs of all lots, ascending, and the greatest goals that they bar."""
    need_stand(house, stand)
    powers = lot_powers(house, stand)
    clauses = clause_count(house)
    return tuple([(lot, greatest_out(clauses, powers[rest_of(member_count(house), lot)])) for lot in powers])

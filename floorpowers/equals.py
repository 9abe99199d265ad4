"""Equals: whether lots have the same powers in two stands, perhaps of two houses, and papers on the powers of a lot."""

from floorpowers.errors import BadHouse, BadPaper
from floorpowers.games import Play, choices_in
from floorpowers.goalbits import (goal_by, goal_count, goals_in, greatest_out, is_in_powers, least_in, number_of_goal,
                                  powers_in)
from floorpowers.houses import book_rules, clause_count, goal_fault, member_count, need_house
from floorpowers.members import carrying_family, need_lot_below
from floorpowers.plans import does_bar, does_force, paper_in
from floorpowers.reach import web_steps
from floorpowers.stands import need_stand
from floorpowers.subsets import is_over_one, is_within
from floorpowers.tables import lot_powers
from floorpowers.values import is_tuple_of, is_word_of, plain


def need_both(house, stand, other_house, other_stand):
    """What is refused of two stands, each of its house, with as many members and as many clauses."""
    need_stand(house, stand)
    need_stand(other_house, other_stand)
    if member_count(other_house) != member_count(house):
        raise BadHouse("weights")
    if clause_count(other_house) != clause_count(house):
        raise BadHouse("clauses")


def have_equal_powers(house, stand, other_house, other_stand):
    """Whether all lots have the same powers in two stands."""
    need_both(house, stand, other_house, other_stand)
    powers = lot_powers(house, stand)
    return powers == lot_powers(other_house, other_stand)


def first_in_one(clauses, powers, other_powers):
    """The first goal, by how many texts it has, that is in just one of both, and whether it is in the first."""
    numbers = [number for number in range(goal_count(clauses)) if is_in_powers(powers ^ other_powers, number)]
    goals = [goal_by(clauses, number) for number in numbers]
    goal = min([(len(each), each) for each in goals])[1]
    return (goal, is_in_powers(powers, number_of_goal(clauses, goal)))


def parting_power(house, stand, other_house, other_stand):
    """The first lot with unlike powers, the first goal that one of both has, and whether the first has it; or None."""
    need_both(house, stand, other_house, other_stand)
    powers = lot_powers(house, stand)
    others = lot_powers(other_house, other_stand)
    for _, lot in sorted([(len(each), each) for each in powers]):
        if powers[lot] != others[lot]:
            return (lot,) + first_in_one(clause_count(house), powers[lot], others[lot])
    return None


def is_no_stronger(house, stand, other_house, other_stand, lot):
    """Whether a lot has no powers in the first stand that it lacks in the other one."""
    need_both(house, stand, other_house, other_stand)
    need_lot_below(member_count(house), lot)
    here = plain(lot)
    powers = powers_in(house, web_steps(house, stand), here)[plain(stand)]
    others = powers_in(other_house, web_steps(other_house, other_stand), here)[plain(other_stand)]
    return powers | others == others


def kind_carriers(house):
    """For each kind of the book the family of the lots that carry."""
    weights = plain(house[0])
    return {kind: carrying_family(weights, share) for kind, (_, share) in book_rules(house).items()}


def same_lots_carry(house, other_house):
    """Whether two houses have as many members, the same kinds, and for each kind just the same lots carry."""
    need_house(house)
    need_house(other_house)
    if member_count(house) != member_count(other_house):
        return False
    return kind_carriers(house) == kind_carriers(other_house)


def lot_paper(house, stand, lot):
    """A paper on all that a lot can force: papers on the least goals, and on the greatest barred ones."""
    need_stand(house, stand)
    need_lot_below(member_count(house), lot)
    clauses = clause_count(house)
    first = plain(stand)
    steps = web_steps(house, stand)
    play = Play(house, plain(lot))
    choices = choices_in(play, steps)
    powers = powers_in(house, steps, play.lot)[first]
    forced = [(goal, paper_in(play, steps, choices, goal, first)) for goal in least_in(clauses, powers)]
    barred = [(goal, paper_in(play, steps, choices, goal, first)) for goal in greatest_out(clauses, powers)]
    return (tuple(forced), tuple(barred))


def are_goal_pairs(house, value):
    """Whether any value is a tuple of pairs with goals first."""
    if not isinstance(value, tuple):
        return False
    return all([is_tuple_of(pair, 2) and goal_fault(house, pair[0]) == () for pair in value])


def is_worded(word, value):
    """Whether any value is a pair of a word and a tuple."""
    return is_tuple_of(value, 2) and is_word_of(value[0], (word,)) and isinstance(value[1], tuple)


def is_goal_met(goal, forced, barred):
    """Whether a goal has all texts of one of some goals, or all its texts are in one of some others."""
    return is_over_one(forced, goal) or any([is_within(goal, other) for other in barred])


def is_whole(clauses, forced, barred):
    """Whether each goal is met by those that are forced or barred."""
    return all([is_goal_met(goal, forced, barred) for goal in goals_in(clauses)])


def check_lot_paper(house, stand, lot, paper):
    """How many goals a paper shows to be forced, that tells all that a lot can force and can't."""
    need_stand(house, stand)
    need_lot_below(member_count(house), lot)
    if not is_tuple_of(paper, 2) or not all([are_goal_pairs(house, pairs) for pairs in paper]):
        raise BadPaper("form")
    play = Play(house, plain(lot))
    first = plain(stand)
    for goal, told in paper[0]:
        if not is_worded("force", told) or not does_force(house, play, first, goal, told[1]):
            raise BadPaper("force")
    for goal, told in paper[1]:
        if not is_worded("bar", told) or not does_bar(house, play, first, goal, told[1]):
            raise BadPaper("bar")
    if not is_whole(clause_count(house), [pair[0] for pair in paper[0]], [pair[0] for pair in paper[1]]):
        raise BadPaper("whole")
    return len(paper[0])

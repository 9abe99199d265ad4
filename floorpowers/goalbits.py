"""Goals by their numbers, and powers of lots as integers whose binary digits tell which goals are in them.

The number of a goal is the sum of 1 << J for the numbers J of its texts, texts being numbered as they ascend; the
powers of a lot are the sum of 1 << N for the numbers N of the goals that it can force. Arguments are checked ahead.
"""

from floorpowers.games import Play, choices_in, choosers
from floorpowers.subsets import all_subsets


def texts_in(clauses):
    """All texts of so many clauses, ascending."""
    return all_subsets(clauses)


def goal_count(clauses):
    """How many goals there are."""
    return 1 << len(texts_in(clauses))


def number_of_goal(clauses, goal):
    """The number of a goal."""
    return sum([1 << place for place, text in enumerate(texts_in(clauses)) if text in goal])


def goal_by(clauses, number):
    """The goal with a number."""
    return tuple([text for place, text in enumerate(texts_in(clauses)) if number >> place & 1])


def goals_by(clauses, numbers):
    """The goals with some numbers, ascending."""
    return tuple(sorted([goal_by(clauses, number) for number in numbers]))


def goals_in(clauses):
    """All goals, ascending."""
    return goals_by(clauses, list(range(goal_count(clauses))))


def goals_with(clauses, text):
    """The goals that have a text, as the binary digits of an integer."""
    place = texts_in(clauses).index(text)
    return sum([1 << number for number in range(goal_count(clauses)) if number >> place & 1])


def is_in_powers(powers, number):
    """Whether the goal with a number is in powers."""
    return powers >> number & 1 == 1


def is_least_in(clauses, powers, number):
    """Whether a goal is among the least of powers, which have with each goal those with more texts."""
    if not is_in_powers(powers, number):
        return False
    places = range(len(texts_in(clauses)))
    return not any([is_in_powers(powers, number - (1 << place)) for place in places if number >> place & 1])


def is_greatest_out(clauses, powers, number):
    """Whether a goal is among the greatest ones out of powers, which have with each goal those with more texts."""
    if is_in_powers(powers, number):
        return False
    places = range(len(texts_in(clauses)))
    return all([is_in_powers(powers, number + (1 << place)) for place in places if not number >> place & 1])


def least_in(clauses, powers):
    """The least goals of powers, ascending."""
    numbers = range(goal_count(clauses))
    return goals_by(clauses, [number for number in numbers if is_least_in(clauses, powers, number)])


def greatest_out(clauses, powers):
    """The greatest goals that aren't in powers, ascending."""
    numbers = range(goal_count(clauses))
    return goals_by(clauses, [number for number in numbers if is_greatest_out(clauses, powers, number)])


def joined(is_mine, powers):
    """The powers of who has one of some powers, or of who has what is in all of them."""
    told = powers[0]
    for each in powers[1:]:
        told = told | each if is_mine else told & each
    return told


def powers_in(house, steps, lot):
    """For each stand of a web the powers of a lot there: told for those that are over, then as far as they grow."""
    play = Play(house, lot)
    choices = choices_in(play, steps)
    ahead = choosers(choices)
    powers = {here: goals_with(play.hall.clauses, here[1]) if here[0] == "over" else 0 for here in steps}
    waiting = [stand for here in steps if here[0] == "over" for stand in ahead[here]]
    is_waiting = {stand: True for stand in waiting}
    at = 0
    while at < len(waiting):
        here = waiting[at]
        at += 1
        is_waiting[here] = False
        is_mine, behind = choices[here]
        grown = joined(is_mine, [powers[each] for each in behind])
        if grown != powers[here]:
            powers[here] = grown
            for stand in ahead[here]:
                if not is_waiting.get(stand, False):
                    is_waiting[stand] = True
                    waiting.append(stand)
    return powers

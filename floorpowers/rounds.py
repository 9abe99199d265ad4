"""Rounds: texts that go to and fro between two houses, and what lots force in any number of rounds."""

from floorpowers.errors import BadHouse, BadLot, BadNumber
from floorpowers.houses import clause_count, house_fault, member_count, need_goal_in, need_text_in
from floorpowers.members import need_member_among, need_share
from floorpowers.subsets import subset_fault
from floorpowers.trips import course_in, round_in, rounds_in, trip_of
from floorpowers.values import is_integer_from, is_tuple_of, plain

MOST_ROUNDS = 1000000000000000000000000000000


def need_journey(journey):
    """The journey itself."""
    if not is_tuple_of(journey, 5):
        raise BadHouse(None)
    house, far_house, member, far_member, share = journey
    for number, each in enumerate((house, far_house)):
        fault = house_fault(each)
        if fault:
            raise BadHouse((number, fault[0]))
    if clause_count(house) != clause_count(far_house):
        raise BadHouse("clauses")
    need_member_among(member_count(house), member)
    need_member_among(member_count(far_house), far_member)
    if share is not None:
        need_share(share)
    return journey


def need_lot_at(journey, number, lot):
    """The lot itself, of the house with a number; the journey is checked."""
    fault = subset_fault(member_count(journey[number]), lot)
    if fault:
        raise BadLot((number, fault[0]))
    return lot


def need_both_lots(journey, lots):
    """The lots themselves, one of each house."""
    need_journey(journey)
    if not is_tuple_of(lots, 2):
        raise BadLot(None)
    for number, lot in enumerate(lots):
        need_lot_at(journey, number, lot)
    return lots


def need_goal_on(journey, goal):
    """The goal itself, of a journey that is checked."""
    return need_goal_in(journey[0], goal)


def need_text_on(journey, text):
    """The text itself, of a journey that is checked."""
    return need_text_in(journey[0], text)


def need_rounds(many):
    """The number of rounds or steps itself."""
    if not is_integer_from(many, 0, MOST_ROUNDS):
        raise BadNumber(many)
    return many


def round_goal(journey, lots, goal):
    """The goal of all texts from which lots force a goal in one round."""
    need_both_lots(journey, lots)
    need_goal_on(journey, goal)
    return round_in(trip_of(journey, lots), goal)


def rounds_goal(journey, lots, goal, many):
    """The goal of all texts from which lots force a goal in so many rounds."""
    need_both_lots(journey, lots)
    need_goal_on(journey, goal)
    need_rounds(many)
    return rounds_in(trip_of(journey, lots), plain(goal), many)


def is_forced(journey, lots, goal, many, text):
    """Whether lots force a goal in so many rounds from a text."""
    need_both_lots(journey, lots)
    need_goal_on(journey, goal)
    need_rounds(many)
    need_text_on(journey, text)
    return text in rounds_in(trip_of(journey, lots), plain(goal), many)


def goal_course(journey, lots, goal):
    """Behind how many rounds the goals come again that come from a goal, and behind how many more each does."""
    need_both_lots(journey, lots)
    need_goal_on(journey, goal)
    goals, start = course_in(trip_of(journey, lots), plain(goal))
    return (start, len(goals) - start)

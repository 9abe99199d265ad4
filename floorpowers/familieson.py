"""Families on a journey: goals by their numbers, maps of these, what lots force in so many rounds, the fewest lots."""

from floorpowers.errors import BadFamily, BadGoal, BadNumber, TooGreat
from floorpowers.goalbits import goal_by, goal_count, goals_by, number_of_goal
from floorpowers.houses import clause_count
from floorpowers.rounds import need_both_lots, need_goal_on, need_journey, need_rounds, need_text_on
from floorpowers.subsets import all_subsets, is_within, subset_fault
from floorpowers.trips import both_grounds, ground_powers, place_on, round_in, rounds_in, trip_by, trip_of
from floorpowers.values import climb_fault, is_integer_from, plain

MOST_CLAUSES = 3
MAP_SIZES = (2, 4, 16)
MOST_NUMBERS = 16


def need_clauses(clauses):
    """How many clauses, itself."""
    if not is_integer_from(clauses, 1, MOST_CLAUSES):
        raise BadNumber(clauses)
    return clauses


def goal_number(clauses, goal):
    """The number of a goal."""
    need_clauses(clauses)
    fault = climb_fault(goal, lambda text: subset_fault(clauses, text) == ())
    if fault:
        raise BadGoal(fault[0])
    return number_of_goal(int(clauses), goal)


def goal_at(clauses, number):
    """The goal with a number."""
    need_clauses(clauses)
    if not is_integer_from(number, 0, goal_count(int(clauses)) - 1):
        raise BadNumber(number)
    return goal_by(int(clauses), number)


def need_map(numbers):
    """The map itself."""
    if not isinstance(numbers, tuple) or len(numbers) not in MAP_SIZES:
        raise BadFamily(None)
    for place, number in enumerate(numbers):
        if not is_integer_from(number, 0, len(numbers) - 1):
            raise BadFamily(place)
    return numbers


def maps_on(numbers):
    """The maps of a map that is done 0, 1, 2 .. times, each once, and the place of the one that comes behind them."""
    maps = [tuple(range(len(numbers)))]
    places = {maps[0]: 0}
    now = plain(numbers)
    while now not in places:
        places[now] = len(maps)
        maps.append(now)
        now = tuple([numbers[number] for number in now])
    return (maps, places[plain(now)])


def map_done(numbers, many):
    """The map that tells where each number comes to in so many steps."""
    need_map(numbers)
    need_rounds(many)
    return done_times(plain(numbers), many)


def done_times(numbers, many):
    """The map that is done so many times; nothing is checked."""
    maps, start = maps_on(numbers)
    return maps[place_on(start, len(maps) - start, int(many))]


def map_course(numbers):
    """Behind how many times the maps come again to which a map comes, and behind how many more each does."""
    need_map(numbers)
    maps, start = maps_on(plain(numbers))
    return (start, len(maps) - start)


def is_rising(numbers):
    """Whether goals within others come to goals within those to which the others come, by their numbers."""
    need_map(numbers)
    places = range(len(numbers))
    within = [(low, high) for low in places for high in places if low & high == low]
    return all([numbers[low] & numbers[high] == numbers[low] for low, high in within])


def need_few_clauses(journey):
    """What is refused of houses with too many goals for a map."""
    if goal_count(clause_count(journey[0])) > MOST_NUMBERS:
        raise TooGreat(MOST_NUMBERS)


def map_of(journey, lots):
    """The map of lots; nothing but the webs' greatness is checked."""
    trip = trip_of(journey, lots)
    numbers = range(goal_count(trip.clauses))
    return tuple([number_of_goal(trip.clauses, round_in(trip, goal_by(trip.clauses, number))) for number in numbers])


def round_map(journey, lots):
    """The map that tells for each number of a goal that of the goal of texts from which lots force it in one round."""
    need_both_lots(journey, lots)
    need_few_clauses(journey)
    return map_of(journey, lots)


def is_less(number, other):
    """Whether the goal with a number lies within that with another one."""
    return number != other and number & other == number


def least_numbers(numbers):
    """Those of some numbers of goals within whose goals none of the others' lies."""
    return [number for number in numbers if not any([is_less(other, number) for other in numbers])]


def family_goals(journey, lots, text, many):
    """The least goals, ascending, that lots force from a text in so many rounds."""
    need_both_lots(journey, lots)
    need_text_on(journey, text)
    need_rounds(many)
    need_few_clauses(journey)
    clauses = clause_count(journey[0])
    behind = done_times(map_of(journey, lots), many)
    forced = [number for number, from_number in enumerate(behind) if text in goal_by(clauses, from_number)]
    return goals_by(clauses, least_numbers(forced))


def powers_by_lot(ground):
    """For each lot of a house its powers from the beginning without clauses."""
    return {lot: ground_powers(ground, lot) for lot in all_subsets(len(ground.plan[0]))}


def are_lots_within(lots, far_lots):
    """Whether both lots are within two others."""
    return is_within(lots[0], far_lots[0]) and is_within(lots[1], far_lots[1])


def fewest_lots(journey, goal, text, many):
    """The lots, ascending, that force a goal from a text in so many rounds, such that none with members left out do."""
    need_journey(journey)
    need_goal_on(journey, goal)
    need_text_on(journey, text)
    need_rounds(many)
    near, far = [powers_by_lot(ground) for ground in both_grounds(journey)]
    found = []
    for _, lots in sorted([(len(lot) + len(far_lot), (lot, far_lot)) for lot in near for far_lot in far]):
        if not any([are_lots_within(fewer, lots) for fewer in found]):
            trip = trip_by(journey, lots[0], near[lots[0]], far[lots[1]])
            if text in rounds_in(trip, plain(goal), many):
                found.append(lots)
    return tuple(sorted(found))

"""Trips: what lots force in one round of a journey, by their powers in both houses. Arguments are checked ahead.

A sitting goes on from each text as it does from the one without clauses, but for its texts, in which the clauses of
the first one are turned: so the powers from that beginning tell those from all.
"""

from floorpowers.goalbits import is_in_powers, number_of_goal, powers_in, texts_in
from floorpowers.members import does_carry
from floorpowers.reach import web_steps
from floorpowers.stands import beginning
from floorpowers.subsets import rest_of, turned
from floorpowers.values import plain
from floorpowers.votes import side_of


class Ground:
    """A house of a journey, with the web of its sittings."""

    def __init__(self, house, member):
        self.plan = plain(house)
        self.first = beginning(house, (), member)
        self.steps = web_steps(house, self.first)


class Trip:
    """A journey of which lots have these powers: near in the first house, far in the other one."""

    def __init__(self, clauses, side, near, far):
        self.clauses = clauses
        self.texts = texts_in(clauses)
        self.side = side
        self.near = near
        self.far = far


def both_grounds(journey):
    """Both houses of a journey with their webs."""
    house, far_house, member, far_member, _ = journey
    return (Ground(house, member), Ground(far_house, far_member))


def ground_powers(ground, lot):
    """The powers of a lot from the beginning without clauses, as the binary digits of an integer."""
    return powers_in(ground.plan, ground.steps, plain(lot))[ground.first]


def last_side(journey, lot):
    """What a lot of the first house can make of the last vote; None if there is no such vote."""
    house, _, _, _, share = journey
    if share is None:
        return None
    others = rest_of(len(house[0]), lot)
    return side_of(does_carry(house[0], share, lot), does_carry(house[0], share, others))


def trip_by(journey, lot, near, far):
    """A journey of which a lot of the first house and one of the other have these powers."""
    return Trip(int(journey[0][1]), last_side(journey, lot), near, far)


def trip_of(journey, lots):
    """A journey with the powers of lots."""
    near, far = both_grounds(journey)
    return trip_by(journey, lots[0], ground_powers(near, lots[0]), ground_powers(far, lots[1]))


def does_force_from(clauses, powers, text, goal):
    """Whether a goal is forced from the beginning with a text, by the powers from that without clauses."""
    return is_in_powers(powers, number_of_goal(clauses, [turned(clauses, end, text) for end in goal]))


def is_good_end(trip, text, end, goal):
    """Whether lots can make that a text of the goal stands, the far sitting of a text being over with an end.

    Where both are the same there is no last vote, but whoever chose could choose nothing else.
    """
    if trip.side is None or trip.side == "down":
        return end in goal
    if trip.side == "up":
        return text in goal
    if trip.side == "decides":
        return text in goal or end in goal
    return text in goal and end in goal


def does_come_back(trip, text, goal):
    """Whether lots can make, once a text is sent to the far house, that a text of the goal stands behind the round."""
    ends = [end for end in trip.texts if is_good_end(trip, text, end, goal)]
    return does_force_from(trip.clauses, trip.far, text, ends)


def round_in(trip, goal):
    """The goal of all texts from which lots force a goal in one round."""
    sent = [text for text in trip.texts if does_come_back(trip, text, goal)]
    return tuple([text for text in trip.texts if does_force_from(trip.clauses, trip.near, text, sent)])


def course_in(trip, goal):
    """The goals to which rounds come from a goal, each once, and the number of the one that comes behind the last."""
    goals = [goal]
    places = {goal: 0}
    now = round_in(trip, goal)
    while now not in places:
        places[now] = len(goals)
        goals.append(now)
        now = round_in(trip, now)
    return (goals, places[now])


def place_on(start, length, number):
    """Where on a course one comes to in so many steps: its start is told, and how many places come round behind it."""
    return number if number < start else start + (number - start) % length


def rounds_in(trip, goal, many):
    """The goal to which so many rounds come from a goal."""
    goals, start = course_in(trip, goal)
    return goals[place_on(start, len(goals) - start, int(many))]

"""Going through webs: what leads where from a stand, and by which least rows. Arguments are checked ahead of this."""

from floorpowers.errors import TooGreat
from floorpowers.halls import Hall, first_steps
from floorpowers.values import plain

MOST_STANDS = 3000


def gone_through(first, steps_at, most=MOST_STANDS):
    """For each thing that comes from a first one, in turn, what leads where from it, as steps_at tells it.

    A thing that is new is found from the first one, in turn, that leads to it, by its first act that does: so those
    that are as far come in the turn of their least rows.
    """
    found = [first]
    known = {first: True}
    steps = {}
    while len(steps) < len(found):
        here = found[len(steps)]
        steps[here] = steps_at(here)
        for _, behind in steps[here]:
            if behind not in known:
                known[behind] = True
                found.append(behind)
        if len(found) > most:
            raise TooGreat(most)
    return steps


def web_steps(house, stand):
    """For each stand of the web, in its turn, the first acts that lead to unlike stands, and these stands."""
    hall = Hall(house)
    return gone_through(plain(stand), lambda here: first_steps(hall, here))


def is_any_let(act, behind):
    """That any step is let: of the act and of the stand behind it nothing is asked."""
    return True


def ways_from(steps, first, is_let):
    """For each stand that comes by steps that are let, in turn, the pair of the stand ahead and the act; None of first.

    steps tells for each stand what leads where, as web_steps does.
    """
    stands = [first]
    ways = {first: None}
    at = 0
    while at < len(stands):
        here = stands[at]
        for act, behind in steps[here]:
            if behind not in ways and is_let(act, behind):
                ways[behind] = (here, act)
                stands.append(behind)
        at += 1
    return ways


def row_by(ways, stand):
    """The least row to a stand by the ways that ways_from tells, None if it doesn't come."""
    if stand not in ways:
        return None
    acts = []
    step = ways[stand]
    while step is not None:
        acts.append(step[1])
        step = ways[step[0]]
    return tuple(acts[::-1])


def stands_ahead(steps):
    """For each stand those from which a step leads to it, once for each step."""
    ahead = {stand: [] for stand in steps}
    for stand, told in steps.items():
        for _, behind in told:
            ahead[behind].append(stand)
    return ahead


def leading_to(steps, goal):
    """The stands from which some row comes to goal, as a dict of True; goal is one of those in steps."""
    ahead = stands_ahead(steps)
    found = {goal: True}
    stands = [goal]
    while stands:
        here = stands.pop()
        for stand in ahead[here]:
            if stand not in found:
                found[stand] = True
                stands.append(stand)
    return found


def farthest_from(steps, places, known, stand):
    """The last place on a way to which steps lead from a stand of it that meet no other stand of it between.

    known are the stands off the way from which this was looked up ahead; those that are found come to it.
    """
    farthest = 0
    stands = [stand]
    while stands:
        here = stands.pop()
        for _, behind in steps[here]:
            if behind in places:
                farthest = max(farthest, places[behind])
            elif behind not in known:
                known[behind] = True
                stands.append(behind)
    return farthest


def chain_on(steps, way):
    """The stands of a way without which no row comes to its last one.

    Such a one is passed by no steps that leave the way ahead of it and come back behind it.
    """
    places = {stand: place for place, stand in enumerate(way)}
    known = {}
    chain = []
    farthest = 0
    for place, stand in enumerate(way):
        if farthest == place:
            chain.append(stand)
        farthest = max(farthest, farthest_from(steps, places, known, stand))
    return tuple(chain)


def cheapest_ways(first, steps_at):
    """For each thing that comes from a first one what its cheapest way costs, and the last step of such a way.

    steps_at tells of a thing the steps (BEHIND, COST, LABEL) from it, COST 0 or 1; told are tuples of the cost, the
    thing ahead and the LABEL, these two None of the first one.
    """
    ways = {}
    level = [(first, None, None)]
    cost = 0
    while level:
        later = []
        at = 0
        while at < len(level):
            here, ahead, label = level[at]
            at += 1
            if here not in ways:
                ways[here] = (cost, ahead, label)
                for behind, more, told in steps_at(here):
                    if more:
                        later.append((behind, here, told))
                    else:
                        level.append((behind, here, told))
        level = later
        cost += 1
    return ways


def costs_to(steps, goals):
    """For each thing from which some of goals come what the cheapest way there costs.

    steps tells for each thing the steps (BEHIND, COST, LABEL) from it, as in cheapest_ways.
    """
    ahead = {here: [] for here in steps}
    for here, told in steps.items():
        for behind, cost, _ in told:
            ahead[behind].append((here, cost, None))
    ways = cheapest_ways(None, lambda here: [(goal, 0, None) for goal in goals] if here is None else ahead[here])
    return {here: way[0] for here, way in ways.items() if here is not None}


def all_steps(first, steps_at):
    """For each thing that comes from a first one what leads where from it, as steps_at tells it."""
    steps = {}
    waiting = [first]
    while waiting:
        here = waiting.pop()
        if here not in steps:
            steps[here] = steps_at(here)
            waiting.extend([step[0] for step in steps[here] if step[0] not in steps])
    return steps

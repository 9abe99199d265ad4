"""Two houses side by side and what lots can force, worked out apart from the package, by the words alone."""

from functools import lru_cache

from sittings import acts, after, graph, is_carried, least_rows, lots

SIDES = {(True, False): "decides", (False, True): "others", (False, False): "down", (True, True): "up"}


def all_shares():
    """All ninety shares, ascending."""
    return sorted((p, q, is_more) for p in range(1, 10) for q in range(p, 10) for is_more in (False, True))


def seen(house, stand):
    """What is seen at a stand."""
    return stand if stand[0] == "over" else ("floor", acts(house, stand))


@lru_cache(maxsize=None)
def pair_graph(place, far_place):
    """For each pair of stands to which rows in order from both places lead the acts in order in both, and the pairs."""
    (house, stand), (far_house, far_stand) = place, far_place
    found, left = {}, [(stand, far_stand)]
    while left:
        here, there = pair = left.pop()
        if pair not in found:
            common = set(acts(house, here)) & set(acts(far_house, there))
            found[pair] = {act: (after(house, here, act), after(far_house, there, act)) for act in common}
            left += found[pair].values()
    return found


def key(row):
    """That by which the lesser row is the least."""
    return (len(row), row)


@lru_cache(maxsize=None)
def parting(place, far_place):
    """The shortest row that parts, of these the least, by the least rows to all pairs; None if there is none."""
    arrows = pair_graph(place, far_place)
    rows = least_rows(arrows, (place[1], far_place[1]))
    parted = [rows[here, there] for here, there in arrows if seen(place[0], here) != seen(far_place[0], there)]
    return min(parted, key=key, default=None)


@lru_cache(maxsize=None)
def beyond(place, far_place):
    """The shortest row that goes beyond, of these the least; None if there is none."""
    arrows = pair_graph(place, far_place)
    rows = least_rows(arrows, (place[1], far_place[1]))
    found = []
    for (here, there), row in rows.items():
        if here[0] == "over" and there != here:
            found.append(row)
        found += [row + (act,) for act in acts(place[0], here) if act not in acts(far_place[0], there)]
    return min(found, key=key, default=None)


def side(house, motion, lot):
    """What a lot can make of a vote on a motion."""
    others = [member for member in range(len(house[0])) if member not in lot]
    return SIDES[is_carried(house, motion, lot), is_carried(house, motion, others)]


def vote_ends(house, stand):
    """UP, None if there is none, and DOWN."""
    ends = {is_carried(house, stand[3][-1], lot): after(house, stand, ("vote", lot)) for lot in lots(len(house[0]))}
    return ends.get(True), ends[False]


def is_question(house, stand):
    """Whether the question is put."""
    return stand[0] == "floor" and stand[6] == len(house[0])


def asked_of(house, stand, lot):
    """Whether the least or the greatest of some stands' numbers counts at a stand, and these stands."""
    if stand[0] == "over":
        return None, ()
    if not is_question(house, stand):
        return (min if stand[5] in lot else max), [after(house, stand, act) for act in acts(house, stand)]
    up, down = vote_ends(house, stand)
    told = {"decides": (min, (up, down)), "others": (max, (up, down)), "down": (min, (down,)), "up": (min, (up,))}
    return told[side(house, stand[3][-1], lot)]


@lru_cache(maxsize=None)
def all_asked(house, stand, lot):
    """For each stand of the web what is asked of it."""
    return {here: asked_of(house, here, lot) for here in graph(house, stand)}


def numbers_to(asked, goals):
    """The number of acts within which a lot comes to goals, of each stand from where it can: level by level."""
    numbers = {stand: 0 for stand in goals}
    level, found = 0, goals
    while found:
        found = []
        for stand, (choose, behind) in asked.items():
            known = [numbers[each] for each in behind if each in numbers]
            if stand not in numbers and known and (choose is min or len(known) == len(behind)):
                found += [stand] if choose(known) == level else []
        level += 1
        numbers.update((stand, level) for stand in found)
    return numbers


def force_numbers(house, stand, lot, goal):
    """The ranks of the stands of a web that have one."""
    asked = all_asked(house, stand, lot)
    return numbers_to(asked, [each for each in asked if each[0] == "over" and each[1] in goal])

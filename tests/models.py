"""Two houses side by side and what lots can force, worked out apart from the package, by the words alone."""

from functools import lru_cache
from itertools import combinations

from sittings import acts, after, graph, is_carried, least_rows, lots

SIDES = {(True, False): "decides", (False, True): "others", (False, False): "down", (True, True): "up"}


def all_shares():
    """All ninety shares, ascending."""
    return sorted((p, q, is_more) for p in range(1, 10) for q in range(p, 10) for is_more in (False, True))


def seen(house, stand):
    """What is seen at a stand."""
    return stand if stand[0] == "over" else ("floor", acts(house, stand))


@lru_cache(maxsize=None)
def pair_graph(place, far_place):
    """For each pair of stands to which rows in order from both places lead the acts in order in both, and the pairs."""
    (house, stand), (far_house, far_stand) = place, far_place
    found, left = {}, [(stand, far_stand)]
    while left:
        here, there = pair = left.pop()
        if pair not in found:
            common = set(acts(house, here)) & set(acts(far_house, there))
            found[pair] = {act: (after(house, here, act), after(far_house, there, act)) for act in common}
            left += found[pair].values()
    return found


def key(row):
    """That by which the lesser row is the least."""
    return (len(row), row)


@lru_cache(maxsize=None)
def parting(place, far_place):
    """The shortest row that parts, of these the least, by the least rows to all pairs; None if there is none."""
    arrows = pair_graph(place, far_place)
    rows = least_rows(arrows, (place[1], far_place[1]))
    parted = [rows[here, there] for here, there in arrows if seen(place[0], here) != seen(far_place[0], there)]
    return min(parted, key=key, default=None)


@lru_cache(maxsize=None)
def beyond(place, far_place):
    """The shortest row that goes beyond, of these the least; None if there is none."""
    arrows = pair_graph(place, far_place)
    rows = least_rows(arrows, (place[1], far_place[1]))
    found = []
    for (here, there), row in rows.items():
        if here[0] == "over" and there != here:
            found.append(row)
        found += [row + (act,) for act in acts(place[0], here) if act not in acts(far_place[0], there)]
    return min(found, key=key, default=None)


def side(house, motion, lot):
    """What a lot can make of a vote on a motion."""
    others = [member for member in range(len(house[0])) if member not in lot]
    return SIDES[is_carried(house, motion, lot), is_carried(house, motion, others)]


def vote_ends(house, stand):
    """UP, None if there is none, and DOWN."""
    ends = {is_carried(house, stand[3][-1], lot): after(house, stand, ("vote", lot)) for lot in lots(len(house[0]))}
    return ends.get(True), ends[False]


def is_question(house, stand):
    """Whether the question is put."""
    return stand[0] == "floor" and stand[6] == len(house[0])


def asked_of(house, stand, lot):
    """Whether the least or the greatest of some stands' numbers counts at a stand, and these stands."""
    if stand[0] == "over":
        return None, ()
    if not is_question(house, stand):
        return (min if stand[5] in lot else max), [after(house, stand, act) for act in acts(house, stand)]
    up, down = vote_ends(house, stand)
    told = {"decides": (min, (up, down)), "others": (max, (up, down)), "down": (min, (down,)), "up": (min, (up,))}
    return told[side(house, stand[3][-1], lot)]


@lru_cache(maxsize=None)
def all_asked(house, stand, lot):
    """For each stand of the web what is asked of it."""
    return {here: asked_of(house, here, lot) for here in graph(house, stand)}


def numbers_to(asked, goals):
    """The number of acts within which a lot comes to goals, of each stand from where it can: level by level."""
    numbers = {stand: 0 for stand in goals}
    level, found = 0, goals
    while found:
        found = []
        for stand, (choose, behind) in asked.items():
            known = [numbers[each] for each in behind if each in numbers]
            if stand not in numbers and known and (choose is min or len(known) == len(behind)):
                found += [stand] if choose(known) == level else []
        level += 1
        numbers.update((stand, level) for stand in found)
    return numbers


def force_numbers(house, stand, lot, goal):
    """The ranks of the stands of a web that have one."""
    asked = all_asked(house, stand, lot)
    return numbers_to(asked, [each for each in asked if each[0] == "over" and each[1] in goal])


def all_goals(house):
    """All goals, ascending."""
    texts = lots(house[1])
    return sorted(goal for size in range(len(texts) + 1) for goal in combinations(texts, size))


@lru_cache(maxsize=None)
def powers(house, stand, lot):
    """The goals that a lot can force from a stand, goal for goal."""
    return frozenset(goal for goal in all_goals(house) if stand in force_numbers(house, stand, lot, goal))


def least_sets(sets):
    """The least of some lots or goals, ascending."""
    return tuple(sorted(one for one in sets if not any(set(other) < set(one) for other in sets)))


def greatest_sets(sets):
    """The greatest of some lots or goals, ascending."""
    return tuple(sorted(one for one in sets if not any(set(other) > set(one) for other in sets)))


def choice(house, stand, lot, numbers):
    """What a lot chooses at a stand by the ranks of stands."""
    if not numbers.get(stand):
        return None
    if is_question(house, stand):
        up, down = vote_ends(house, stand)
        can = side(house, stand[3][-1], lot)
        if can != "decides":
            return {"others": None, "down": False, "up": True}[can]
        return down not in numbers or (up in numbers and numbers[up] <= numbers[down])
    if stand[5] not in lot:
        return None
    told = [(numbers[after(house, stand, act)], act) for act in acts(house, stand)
            if after(house, stand, act) in numbers]
    return min(told)[1]


def can_come(house, stand, lot, chosen):
    """The stands that can come, a lot doing as chosen; None if that can't be its choice."""
    if stand[0] == "over":
        return [] if chosen is None else None
    if is_question(house, stand):
        up, down = vote_ends(house, stand)
        can = side(house, stand[3][-1], lot)
        if can == "others":
            return [up, down] if chosen is None else None
        let = {"decides": (True, False), "down": (False,), "up": (True,)}[can]
        if not any(chosen is each for each in let):
            return None
        return [up] if chosen else [down]
    if stand[5] not in lot:
        return [after(house, stand, act) for act in acts(house, stand)] if chosen is None else None
    return [after(house, stand, chosen)] if chosen in acts(house, stand) else None


def is_force_paper(house, first, lot, goal, rows):
    """Whether triples of stands, integers and choices are a "force" paper."""
    told = {stand: (rank, chosen) for stand, rank, chosen in rows}
    if len(told) < len(rows) or first not in told:
        return False
    if not all(type(rank) is int and 0 <= rank <= 100000 for rank, _ in told.values()):
        return False
    for stand, (rank, chosen) in told.items():
        coming = can_come(house, stand, lot, chosen)
        if coming is None or (rank == 0) != (stand[0] == "over"):
            return False
        if stand[0] == "over" and stand[1] not in goal:
            return False
        if any(each not in told or told[each][0] >= rank for each in coming):
            return False
    return True


def is_bar_paper(house, first, lot, goal, stands):
    """Whether some stands are a "bar" paper."""
    if len(set(stands)) < len(stands) or first not in stands:
        return False
    for stand in stands:
        if stand[0] == "over":
            if stand[1] in goal:
                return False
            continue
        if is_question(house, stand):
            up, down = (each in stands for each in vote_ends(house, stand))
            is_right = {"decides": up and down, "others": up or down, "down": down,
                        "up": up}[side(house, stand[3][-1], lot)]
        else:
            known = [after(house, stand, act) in stands for act in acts(house, stand)]
            is_right = all(known) if stand[5] in lot else any(known)
        if not is_right:
            return False
    return True


def may_member(house, stand, member, kind):
    """Whether a member may move a kind, or has the floor."""
    if stand[0] == "over" or is_question(house, stand) or stand[5] != member:
        return False
    return kind is None or any(act[0] == "move" and act[1][0] == kind for act in acts(house, stand))


def comes_by(house, stand, lot, within):
    """Whether a member comes to one of some stands by one act, whatever the lot does."""
    if stand[0] == "over":
        return False
    if is_question(house, stand):
        up, down = (each in within for each in vote_ends(house, stand))
        return {"decides": up and down, "others": up or down, "down": down, "up": up}[side(house, stand[3][-1], lot)]
    known = [after(house, stand, act) in within for act in acts(house, stand)]
    return all(known) if stand[5] in lot else any(known)


@lru_cache(maxsize=None)
def waits(house, stand, lot, member, kind):
    """The waits of the stands of a web that have one, number by number."""
    left = list(graph(house, stand))
    found = {here: 0 for here in left if may_member(house, here, member, kind)}
    number, fresh = 1, True
    while fresh:
        fresh = [here for here in left if here not in found and comes_by(house, here, lot, found)]
        found.update((here, number) for here in fresh)
        number += 1
    return found


def is_comes_paper(house, first, lot, member, kind, pairs):
    """Whether pairs of stands of the web, each once, and integers are a "comes" paper."""
    told = dict(pairs)
    if first not in told:
        return False
    for stand, number in pairs:
        lesser = {each for each, other in pairs if other < number}
        if not (may_member(house, stand, member, kind) if number == 0 else comes_by(house, stand, lot, lesser)):
            return False
    return True


def is_kept_paper(house, first, lot, member, kind, stands):
    """Whether stands of the web, each once, are a "kept" paper."""
    if first not in stands or any(may_member(house, stand, member, kind) for stand in stands):
        return False
    others = tuple(each for each in range(len(house[0])) if each not in lot)
    return is_bar_paper(house, first, others, (), stands)

"""How often members come, and texts between two houses, worked out apart from the package, by the words alone."""

from functools import lru_cache

from models import SIDES, all_goals, asked_of, comes_by, is_question, may_member, numbers_to, side, vote_ends
from sittings import acts, after, first_stand, graph, lots


def coming_to(house, web, lot, places):
    """The stands of a web from which a member comes to some of them whatever a lot does, with their numbers of acts."""
    found = {here: 0 for here in places}
    number, fresh = 1, True
    while fresh:
        fresh = [here for here in web if here not in found and comes_by(house, here, lot, found)]
        found.update((here, number) for here in fresh)
        number += 1
    return found


@lru_cache(maxsize=None)
def comings(house, stand, lot, member, kind):
    """For 1, 2, 3 .. times the stands from which a member comes so often, up to where no stand goes out any more."""
    web = list(graph(house, stand))
    places = [here for here in web if may_member(house, here, member, kind)]
    told = [coming_to(house, web, lot, places)]
    while len(told) < 2 or set(told[-1]) != set(told[-2]):
        again = [here for here in places if any(after(house, here, act) in told[-1] for act in acts(house, here))]
        told.append(coming_to(house, web, lot, again))
    return told


def times(house, stand, lot, member, kind, here=None):
    """How often a member comes from a stand of the web; None if as often as one likes."""
    told = comings(house, stand, lot, member, kind)
    here = stand if here is None else here
    return None if here in told[-1] else sum(here in each for each in told)


def stays(house, stand, lot, within):
    """Whether a lot can keep to some stands for one act."""
    if stand[0] == "over":
        return True
    if is_question(house, stand):
        up, down = (each in within for each in vote_ends(house, stand))
        return {"decides": up or down, "others": up and down, "down": down, "up": up}[side(house, stand[3][-1], lot)]
    known = [after(house, stand, act) in within for act in acts(house, stand)]
    return any(known) if stand[5] in lot else all(known)


def is_often_paper(house, first, lot, member, kind, many, triples):
    """Whether triples of stands of the web, K and N, none with one K twice, are an "often" paper."""
    told = {(stand, k): n for stand, k, n in triples}
    if (first, many) not in told:
        return False
    for (stand, k), n in told.items():
        if n == 0:
            less = None if many is None else k - 1
            if not may_member(house, stand, member, kind):
                return False
            if k != 1 and not any((after(house, stand, act), less) in told for act in acts(house, stand)):
                return False
        elif not comes_by(house, stand, lot, {each for (each, other), m in told.items() if other == k and m < n}):
            return False
    return True


def is_seldom_paper(house, first, lot, member, kind, many, pairs):
    """Whether pairs of stands of the web, each once, and K are a "seldom" paper."""
    told = dict(pairs)
    if first not in told or (many is not None and told[first] >= many):
        return False
    for stand, k in told.items():
        if may_member(house, stand, member, kind):
            if not all(told.get(after(house, stand, act), k) < k for act in acts(house, stand)):
                return False
        elif not stays(house, stand, lot, {each for each, other in told.items() if other <= k}):
            return False
    return True


def last_side(weights, share, lot):
    """What a lot can make of the last vote of a round."""
    part, whole, is_more = share
    everybody = sum(weights)
    mine = sum(weights[member] for member in lot)
    does = [whole * each > part * everybody or (not is_more and whole * each == part * everybody)
            for each in (mine, everybody - mine)]
    return SIDES[tuple(does)]


def last_vote(journey, lot, sent, back):
    """Whose choice it is which of two texts stands, and these."""
    share = journey[4]
    if share is None or sent == back:
        return min, [("stands", back)]
    told = {"decides": (min, (sent, back)), "others": (max, (sent, back)), "down": (min, (back,)),
            "up": (min, (sent,))}[last_side(journey[0][0], share, lot)]
    return told[0], [("stands", text) for text in told[1]]


@lru_cache(maxsize=None)
def game(journey, lots_of):
    """All of a round: for each sitting's stand, and what stands at its end, who chooses among what comes."""
    house, far_house, member, far_member, _ = journey
    asked = {}
    for text in lots(house[1]):
        asked["stands", text] = (None, ())
        for here in graph(house, first_stand(house, text, member)):
            choose, behind = asked_of(house, here, lots_of[0])
            asked["near", here] = (choose, [("near", each) for each in behind])
    for sent in lots(house[1]):
        asked["near", ("over", sent)] = (min, [("far", sent, first_stand(far_house, sent, far_member))])
        for here in graph(far_house, first_stand(far_house, sent, far_member)):
            choose, behind = asked_of(far_house, here, lots_of[1])
            asked["far", sent, here] = (choose, [("far", sent, each) for each in behind])
        for back in lots(house[1]):
            asked["far", sent, ("over", back)] = last_vote(journey, lots_of[0], sent, back)
    return asked


@lru_cache(maxsize=None)
def winning_places(journey, lots_of, goal):
    """The places of a round from which lots make that a text of a goal stands at its end."""
    asked = game(journey, lots_of)
    return numbers_to(asked, [("stands", text) for text in goal])


def round_of(journey, lots_of, goal):
    """The texts from which lots force a goal in one round."""
    found = winning_places(journey, lots_of, goal)
    begins = [(text, ("near", first_stand(journey[0], text, journey[2]))) for text in lots(journey[0][1])]
    return tuple(text for text, begin in begins if begin in found)


def passes(journey, lots_of, text):
    """Whether a text passes with lots."""
    begin = ("far", text, first_stand(journey[1], text, journey[3]))
    return begin in winning_places(journey, lots_of, (text,))


def goals_on(journey, lots_of, goal):
    """The goals K(0), K(1) .. up to the first that came ahead, and the number where it did."""
    told = [goal]
    while told[-1] not in told[:-1]:
        told.append(round_of(journey, lots_of, told[-1]))
    return told, told.index(told[-1])


def after_rounds(journey, lots_of, goal, many):
    """K(many)."""
    told, start = goals_on(journey, lots_of, goal)
    if many < len(told):
        return told[many]
    return told[start + (many - start) % (len(told) - 1 - start)]


def all_lots(journey):
    """All LOTS."""
    return [(lot, far) for lot in lots(len(journey[0][0])) for far in lots(len(journey[1][0]))]


def goals_of(journey):
    """All goals."""
    return all_goals(journey[0])

"""Kept: who keeps a member from a kind, how often the member comes to it, papers on that, and the least lots that do.

Levels are told for how often the member comes: the first one has all stands of the web, the next one the waits of
those from which it comes once, and so on. The last one is empty, or has the stands of the one ahead: then it has those
from which the member comes as often as one likes.
"""

from floorpowers.errors import BadNumber, BadPaper
from floorpowers.games import choice_of, choices_in, does_choice_hold, ranks_to
from floorpowers.houses import book_kinds, member_count
from floorpowers.members import need_member_among
from floorpowers.papers import need_paper_of
from floorpowers.reach import web_steps
from floorpowers.stands import need_stand
from floorpowers.subsets import all_subsets, is_over_one
from floorpowers.turns import need_kind_or_none
from floorpowers.values import is_integer_from, is_tuple_of, plain
from floorpowers.waits import MOST_WAIT, Wait, is_there, need_in_web, need_numbers, need_wait, wait_of, waits_in

MOST_TIMES = 20


def does_keep(house, stand, lot, member, kind):
    """Whether a lot keeps a member from a kind."""
    return wait_of(house, stand, lot, member, kind) is None


def need_times(many):
    """How many times, itself: None, or an integer that isn't too great."""
    if many is not None and not is_integer_from(many, 1, MOST_TIMES):
        raise BadNumber(many)
    return many


def levels_in(wait, steps):
    """The levels of a web."""
    choices = choices_in(wait.play, steps)
    places = [here for here in steps if is_there(wait, here)]
    levels = [{here: 0 for here in steps}]
    is_done = False
    while not is_done:
        goals = [here for here in places if any([behind in levels[-1] for _, behind in steps[here]])]
        levels.append(ranks_to(choices, goals))
        is_done = len(levels[-1]) in (0, len(levels[-2]))
    return levels


def times_in(levels, stand):
    """How often the member comes from a stand, None if as often as one likes."""
    if stand in levels[-1]:
        return None
    return len([True for level in levels[1:] if stand in level])


def times_of(house, stand, lot, member, kind):
    """How often the member comes to the kind, None if as often as one likes."""
    wait = need_wait(house, stand, lot, member, kind)
    return times_in(levels_in(wait, web_steps(house, stand)), plain(stand))


def is_often(times, many):
    """Whether who comes so often comes many times; None is as often as one likes."""
    return times is None or (many is not None and times >= many)


def often_triples(levels, many):
    """The triples by which the member comes many times: of the last level, or of all numbers up to many."""
    if many is None:
        return tuple([(here, None, wait) for here, wait in levels[-1].items()])
    told = []
    for number in range(1, many + 1):
        level = levels[min(number, len(levels) - 1)]
        told.extend([(here, number, wait) for here, wait in level.items()])
    return tuple(told)


def seldom_pairs(levels):
    """The pairs of all stands from which the member doesn't come as often as one likes, and how often it does."""
    return tuple([(here, times_in(levels, here)) for here in levels[0] if here not in levels[-1]])


def times_paper(house, stand, lot, member, kind, many):
    """A paper on whether the member comes many times, or as often as one likes."""
    wait = need_wait(house, stand, lot, member, kind)
    need_times(many)
    levels = levels_in(wait, web_steps(house, stand))
    if is_often(times_in(levels, plain(stand)), many):
        return ("often", often_triples(levels, plain(many)))
    return ("seldom", seldom_pairs(levels))


def is_often_number(number, many):
    """Whether any value may stand for how often the member comes, in a paper for many times."""
    return number is None if many is None else is_integer_from(number, 1, many)


def need_triples(house, steps, many, triples):
    """For each pair of a stand of the web and of how often, told in triples, once each, its number of acts."""
    for triple in triples:
        if not is_tuple_of(triple, 3) or not is_often_number(triple[1], many):
            raise BadPaper("form")
        if not is_integer_from(triple[2], 0, MOST_WAIT):
            raise BadPaper("form")
    stands = need_in_web(house, steps, [triple[0] for triple in triples])
    told = {(stand, plain(triple[1])): plain(triple[2]) for stand, triple in zip(stands, triples)}
    if len(told) < len(triples):
        raise BadPaper("form")
    return told


def is_triple_right(wait, steps, told, stand, many):
    """Whether the number of acts of a stand is right: 0 where the member comes again, else by stands with lesser ones.

    Lesser ones are told of as many times; behind the kind itself they are of one time less.
    """
    number = told[stand, many]
    if number == 0:
        less = None if many is None else many - 1
        is_again = less == 0 or any([(behind, less) in told for _, behind in steps[stand]])
        return is_there(wait, stand) and is_again
    if stand[0] == "over":
        return False
    is_mine, behind = choice_of(wait.play, stand, steps[stand])
    return does_choice_hold(is_mine, [told.get((each, many), number) < number for each in behind])


def is_pair_right(wait, steps, told, stand):
    """Whether how often the member comes at most is right of a stand, by those behind it."""
    most = told[stand]
    if is_there(wait, stand):
        return all([behind in told and told[behind] < most for _, behind in steps[stand]])
    if stand[0] == "over":
        return True
    is_mine, behind = choice_of(wait.play, stand, steps[stand])
    return does_choice_hold(not is_mine, [each in told and told[each] <= most for each in behind])


def check_times(house, stand, lot, member, kind, many, paper):
    """The word of a paper that shows that the member comes many times, or that it doesn't."""
    wait = need_wait(house, stand, lot, member, kind)
    need_times(many)
    steps = web_steps(house, stand)
    word, things = need_paper_of(("often", "seldom"), paper)
    first = plain(stand)
    if word == "often":
        told = need_triples(house, steps, many, things)
        does_hold = (first, many) in told
        does_hold = does_hold and all([is_triple_right(wait, steps, told, here, number) for here, number in told])
    else:
        told = need_numbers(house, steps, things)
        does_hold = first in told and (many is None or told[first] < many)
        does_hold = does_hold and all([is_pair_right(wait, steps, told, here) for here in told])
    if not does_hold:
        raise BadPaper(str(word))
    return str(word)


def least_keepers(house, steps, first, member, kind):
    """The least lots, ascending, that keep a member from a kind at the first stand of a web."""
    lots = [lot for lot in all_subsets(member_count(house)) if member not in lot]
    found = []
    for _, lot in sorted([(len(lot), lot) for lot in lots]):
        if not is_over_one(found, lot) and first not in waits_in(Wait(house, lot, member, kind), steps):
            found.append(lot)
    return tuple(sorted(found))


def keepers(house, stand, member, kind):
    """The least lots, ascending, that keep a member from a kind."""
    need_stand(house, stand)
    need_member_among(member_count(house), member)
    need_kind_or_none(house, kind)
    return least_keepers(house, web_steps(house, stand), plain(stand), member, kind)


def wanted(house, stand, member, kind):
    """The lot of all that stand in one of the least lots that keep a member from a kind."""
    lots = keepers(house, stand, member, kind)
    return tuple([other for other in range(member_count(house)) if any([other in lot for lot in lots])])


def kept_table(house, stand):
    """For each member, for each kind of the book in its turn, the least lots that keep the member from the kind."""
    need_stand(house, stand)
    steps = web_steps(house, stand)
    first = plain(stand)
    members = range(member_count(house))
    kinds = book_kinds(house)
    return tuple([tuple([least_keepers(house, steps, first, member, kind) for kind in kinds]) for member in members])

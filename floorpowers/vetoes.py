"""Vetoes: texts that pass, lots that overrule, hold up or veto, goals that come at some time, or are kept for ever."""

from floorpowers.errors import BadPaper
from floorpowers.houses import clause_count, goal_fault, member_count
from floorpowers.members import carrying_family
from floorpowers.papers import need_worded
from floorpowers.rounds import need_both_lots, need_goal_on, need_journey, need_lot_at, need_text_on
from floorpowers.subsets import all_subsets, is_within, least_of_closed, rest_of
from floorpowers.trips import (both_grounds, does_come_back, does_force_from, ground_powers, round_in, trip_by,
                               trip_of)
from floorpowers.values import is_natural, is_tuple_of, plain


def passing(journey, lots):
    """The goal of all texts that pass with lots."""
    need_both_lots(journey, lots)
    trip = trip_of(journey, lots)
    return tuple([text for text in trip.texts if does_come_back(trip, text, (text,))])


def overrulers(journey):
    """The least lots, ascending, that overrule."""
    need_journey(journey)
    house, _, _, _, share = plain(journey)
    return () if share is None else carrying_family(house[0], share)


def holders(journey, text):
    """The least lots of the far house, ascending, that hold up a text."""
    need_journey(journey)
    need_text_on(journey, text)
    _, far = both_grounds(journey)
    clauses = clause_count(journey[0])
    many = member_count(journey[1])
    lots = all_subsets(many)
    powers = {lot: ground_powers(far, rest_of(many, lot)) for lot in lots}
    return least_of_closed([lot for lot in lots if not does_force_from(clauses, powers[lot], text, (text,))])


def vetoers(journey, text, lot):
    """The least lots of the far house, ascending, that veto a text against a lot of the first house."""
    need_journey(journey)
    need_text_on(journey, text)
    need_lot_at(journey, 0, lot)
    near, far = both_grounds(journey)
    powers = ground_powers(near, lot)
    many = member_count(journey[1])
    lots = all_subsets(many)
    trips = {each: trip_by(journey, lot, powers, ground_powers(far, rest_of(many, each))) for each in lots}
    asked = plain(text)
    return least_of_closed([each for each in lots if not does_come_back(trips[each], asked, (asked,))])


def ranks_on(trip, goal):
    """For each text that has a rank of a goal its rank."""
    ranks = {text: 0 for text in goal}
    rank = 0
    is_done = False
    while not is_done:
        rank += 1
        known = tuple([text for text in trip.texts if text in ranks])
        fresh = [text for text in round_in(trip, known) if text not in ranks]
        for text in fresh:
            ranks[text] = rank
        is_done = not fresh
    return ranks


def losing_ranks(trip, goal):
    """For each text that isn't kept in a goal a rank: 0 outside of it, then by what isn't forced to stay."""
    ranks = {text: 0 for text in trip.texts if text not in goal}
    rank = 0
    is_done = False
    while not is_done:
        rank += 1
        left = tuple([text for text in trip.texts if text not in ranks])
        staying = round_in(trip, left)
        fresh = [text for text in left if text not in staying]
        for text in fresh:
            ranks[text] = rank
        is_done = not fresh
    return ranks


def lacking_in(trip, ranks):
    """The goal of all texts without a rank."""
    return tuple([text for text in trip.texts if text not in ranks])


def ranks_told(trip, ranks):
    """For each text, in turn, its rank, or None."""
    return tuple([ranks.get(text) for text in trip.texts])


def ever_ranks(journey, lots, goal):
    """For each text behind how many rounds at most lots can make a text of a goal stand, or None."""
    need_both_lots(journey, lots)
    need_goal_on(journey, goal)
    trip = trip_of(journey, lots)
    return ranks_told(trip, ranks_on(trip, plain(goal)))


def kept_goal(journey, lots, goal):
    """The goal of all texts from which lots can make that at once and for ever a text of a goal stands."""
    need_both_lots(journey, lots)
    need_goal_on(journey, goal)
    trip = trip_of(journey, lots)
    return lacking_in(trip, losing_ranks(trip, goal))


def trip_with(journey, lots, goal, text):
    """A journey with the powers of lots, behind what is refused of a goal and a text too."""
    need_both_lots(journey, lots)
    need_goal_on(journey, goal)
    need_text_on(journey, text)
    return trip_of(journey, lots)


def ever_paper(journey, lots, goal, text):
    """A paper on whether lots can make that a text of a goal stands some time."""
    trip = trip_with(journey, lots, goal, text)
    ranks = ranks_on(trip, plain(goal))
    return ("ever", ranks_told(trip, ranks)) if text in ranks else ("never", lacking_in(trip, ranks))


def kept_paper(journey, lots, goal, text):
    """A paper on whether lots can make that a text of a goal stands at once and for ever."""
    trip = trip_with(journey, lots, goal, text)
    ranks = losing_ranks(trip, goal)
    return ("lost", ranks_told(trip, ranks)) if text in ranks else ("kept", lacking_in(trip, ranks))


def ranks_by_text(trip, ranks, text):
    """For each text its rank in any value that is a tuple of ranks and None, with one of this text; else None."""
    if not is_tuple_of(ranks, len(trip.texts)):
        return None
    if not all([rank is None or is_natural(rank) for rank in ranks]):
        return None
    told = {each: rank for each, rank in zip(trip.texts, ranks) if rank is not None}
    return told if text in told else None


def lesser_texts(trip, ranks, rank):
    """The goal of all texts with ranks below one."""
    return tuple([text for text in trip.texts if text in ranks and ranks[text] < rank])


def does_rise(trip, goal, ranks):
    """Whether ranks show that a text of a goal can be made to stand: each is by texts with lesser ones."""
    if not all([(rank == 0) == (text in goal) for text, rank in ranks.items()]):
        return False
    if not all([text in ranks for text in goal]):
        return False
    later = [text for text in ranks if ranks[text] > 0]
    return all([text in round_in(trip, lesser_texts(trip, ranks, ranks[text])) for text in later])


def does_lose(trip, goal, ranks):
    """Whether ranks show that texts of a goal can't be made to stay: each is left, texts with lesser ones left out."""
    outside = tuple([text for text in trip.texts if text not in goal])
    if not all([(rank == 0) == (text in outside) for text, rank in ranks.items()]):
        return False
    if not all([text in ranks for text in outside]):
        return False
    later = [text for text in ranks if ranks[text] > 0]
    lesser = {text: lesser_texts(trip, ranks, ranks[text]) for text in later}
    return not any([text in round_in(trip, lacking_in(trip, lesser[text])) for text in later])


def is_goal_with(journey, value, text):
    """Whether any value is a goal with a text."""
    return goal_fault(journey[0], value) == () and text in value


def check_ever(journey, lots, goal, text, paper):
    """The word of a paper that shows that a text of a goal can be made to stand some time, or that it can't."""
    trip = trip_with(journey, lots, goal, text)
    word, told = need_worded(("ever", "never"), paper)
    if word == "ever":
        ranks = ranks_by_text(trip, told, text)
        does_hold = ranks is not None and does_rise(trip, goal, ranks)
    elif is_goal_with(journey, told, text):
        away = tuple([each for each in trip.texts if each not in told])
        does_hold = is_within(goal, away) and is_within(round_in(trip, away), away)
    else:
        does_hold = False
    if not does_hold:
        raise BadPaper(str(word))
    return str(word)


def check_kept(journey, lots, goal, text, paper):
    """The word of a paper that shows that texts of a goal can be made to stand for ever, or that they can't."""
    trip = trip_with(journey, lots, goal, text)
    word, told = need_worded(("kept", "lost"), paper)
    if word == "lost":
        ranks = ranks_by_text(trip, told, text)
        does_hold = ranks is not None and does_lose(trip, goal, ranks)
    elif is_goal_with(journey, told, text):
        does_hold = is_within(told, goal) and is_within(told, round_in(trip, told))
    else:
        does_hold = False
    if not does_hold:
        raise BadPaper(str(word))
    return str(word)

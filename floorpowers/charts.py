"""Charts: a web with minutes, and the pairs of a stand and a pin that lead to one another.

A pin of a pair is told by its digit, as in tracks.
"""

from floorpowers.entries import need_minutes_in
from floorpowers.errors import TooGreat
from floorpowers.halls import steps_in
from floorpowers.reach import all_steps, costs_to, web_steps
from floorpowers.stands import need_stand
from floorpowers.tracks import Track, digits_of, led, moved, settled
from floorpowers.values import plain

MOST_PAIRS = 20000


class Chart:
    """A web with minutes."""

    def __init__(self, track, first, stands):
        self.track = track
        self.first = first
        self.steps = {here: steps_in(track.hall, here) for here in stands}


def need_few_pairs(stands, track):
    """What is refused of a web and minutes that have too many pairs of a stand and a pin."""
    if len(stands) * len(track.pins) > MOST_PAIRS:
        raise TooGreat(MOST_PAIRS)


def need_chart(house, stand, minutes):
    """A chart, behind what is refused of a stand and minutes."""
    need_stand(house, stand)
    need_minutes_in(house, minutes)
    stands = list(web_steps(house, stand))
    track = Track(house, plain(minutes))
    need_few_pairs(stands, track)
    return Chart(track, plain(stand), stands)


def free_leads(track, steps, pair):
    """The pairs to which a pair leads, each once, with the first act by which it does, None of no act.

    steps are all acts in order of its stand, with the stands behind them.
    """
    stand, pin = pair
    leads = {(stand, 1 << number): None for number in digits_of(settled(track, stand, pin) - pin)}
    for act, behind in steps:
        onward = moved(track, act, pin)
        if onward:
            leads.setdefault((behind, onward), act)
    return leads


def priced_leads(chart, pair):
    """The steps to pairs to which a pair leads, each with how many acts it is."""
    leads = free_leads(chart.track, chart.steps[pair[0]], pair)
    return [(behind, 0 if act is None else 1, act) for behind, act in leads.items()]


def leads_from_first(chart):
    """For each pair to which that of the first stand and the first pin leads its priced_leads."""
    return all_steps((chart.first, 1), lambda pair: priced_leads(chart, pair))


def acts_to_last(chart, leads):
    """For each pair that leads to the last pin by how many acts at least it does."""
    return costs_to(leads, [pair for pair in leads if pair[1] == chart.track.last])


def first_state(chart):
    """The first stand and the lot of all pins to which it leads at once."""
    return (chart.first, settled(chart.track, chart.first, 1))


def state_steps(chart, state):
    """The acts, ascending, by which a stand and a lot of pins lead to some pin, and the stands and lots behind them."""
    stand, pins = state
    steps = [(act, (behind, led(chart.track, act, behind, pins))) for act, behind in chart.steps[stand]]
    return [(act, behind) for act, behind in steps if behind[1]]


def states_within(chart, many):
    """For each stand and lot of pins that come by at most so many acts by how many; and what leads on from the others.

    Those that come by just so many acts aren't gone on from.
    """
    first = first_state(chart)
    known = {first: 0}
    states = [first]
    steps = {}
    for number in range(many):
        fresh = []
        for state in states:
            steps[state] = state_steps(chart, state)
            for _, behind in steps[state]:
                if behind not in known:
                    known[behind] = number + 1
                    fresh.append(behind)
            if len(known) > MOST_PAIRS:
                raise TooGreat(MOST_PAIRS)
        states = fresh
    return known, steps

"""Fitting: the rows that fit minutes, what these tell of each place, and how two minutes differ."""

from floorpowers.charts import (MOST_PAIRS, Chart, acts_to_last, first_state, free_leads, leads_from_first,
                                need_chart, need_few_pairs, states_within)
from floorpowers.counted import rows_over, step_numbered
from floorpowers.entries import WORDS, does_cut, first_cuts, need_minutes_in
from floorpowers.errors import BadName, BadNumber, BadPaper
from floorpowers.halls import steps_in
from floorpowers.houses import KINDS
from floorpowers.papers import stands_told
from floorpowers.reach import gone_through, is_any_let, row_by, ways_from, web_steps
from floorpowers.rows import way_in_order
from floorpowers.stands import need_stand
from floorpowers.tracks import Track, digits_of, is_told, led, settled, tells_act, things_noted
from floorpowers.values import is_integer_from, is_tuple_of, is_word_of, plain

MOST_ACTS = 30


def step_to_last(chart, numbers, state, left):
    """The first act behind which so many lead to the last pin, with the stand and the pins behind it."""
    stand, pins = state
    for act, behind in chart.steps[stand]:
        onward = led(chart.track, act, behind, pins)
        if any([numbers.get((behind, 1 << number)) == left for number in digits_of(onward)]):
            return (act, (behind, onward))
    return None


def least_fit(chart):
    """The least row that fits, None if none does."""
    numbers = acts_to_last(chart, leads_from_first(chart))
    begin = (chart.first, 1)
    if begin not in numbers:
        return None
    row = []
    state = first_state(chart)
    for left in reversed(range(numbers[begin])):
        act, state = step_to_last(chart, numbers, state, left)
        row.append(act)
    return tuple(row)


def first_fit(house, stand, minutes):
    """The least row that fits, None if none does."""
    return least_fit(need_chart(house, stand, minutes))


def need_many_acts(many):
    """The number of acts itself."""
    if not is_integer_from(many, 0, MOST_ACTS):
        raise BadNumber(many)
    return many


def numbered_behind(steps):
    """The pairs of what comes behind one act, each once, and by how many acts it does."""
    numbers = {}
    for _, behind in steps:
        numbers[behind] = numbers.get(behind, 0) + 1
    return list(numbers.items())


def fit_counts(chart, known, steps, many):
    """For each number of acts up to many, for each stand and lot of pins, how many rows of so many acts fit from it."""
    behind = {state: numbered_behind(told) for state, told in steps.items()}
    counts = [{state: 1 if state[1] & chart.track.last else 0 for state in known}]
    for number in range(1, many + 1):
        less = counts[-1]
        counts.append({state: rows_over(told, less) for state, told in behind.items() if known[state] + number <= many})
    return counts


def fits_counted(house, stand, minutes, many):
    """How many rows of just so many acts fit."""
    chart = need_chart(house, stand, minutes)
    need_many_acts(many)
    known, steps = states_within(chart, many)
    return fit_counts(chart, known, steps, many)[-1][first_state(chart)]


def fit_at(house, stand, minutes, many, number):
    """The row with a number among those of just so many acts that fit, ascending."""
    chart = need_chart(house, stand, minutes)
    need_many_acts(many)
    known, steps = states_within(chart, many)
    counts = fit_counts(chart, known, steps, many)
    state = first_state(chart)
    if not is_integer_from(number, 0, counts[-1][state] - 1):
        raise BadNumber(number)
    row = []
    left = int(number)
    for further in reversed(counts[:-1]):
        act, state, left = step_numbered(steps[state], further, left)
        row.append(act)
    return tuple(row)


def need_place(chart, place):
    """The number of a place itself."""
    if not is_integer_from(place, 0, len(chart.track.entries)):
        raise BadNumber(place)
    return place


def stands_in(chart, numbers, place):
    """The stands that may be at a place, in the web's turn; numbers has all pairs on a way to the last pin."""
    return [here for here in chart.steps if (here, chart.track.begins[place]) in numbers]


def stands_at(house, stand, minutes, place):
    """The stands that may be at a place."""
    chart = need_chart(house, stand, minutes)
    need_place(chart, place)
    return tuple(stands_in(chart, acts_to_last(chart, leads_from_first(chart)), place))


def entry_acts(house, stand, minutes, place):
    """The acts, ascending, that an entry that tells of one act may tell of."""
    chart = need_chart(house, stand, minutes)
    entries = chart.track.entries
    if not is_integer_from(place, 0, len(entries) - 1) or not tells_act(entries[place]):
        raise BadNumber(place)
    numbers = acts_to_last(chart, leads_from_first(chart))
    behind = chart.track.begins[place + 1]
    acts = {act: True for here in stands_in(chart, numbers, place) for act, there in chart.steps[here]
            if is_told(entries[place], act) and (there, behind) in numbers}
    return tuple(sorted(acts))


def things_at(stands, word):
    """For each of some stands the thing for which the note of a word is so, where there is one, each once."""
    noted = [things_noted(here) for here in stands]
    return list({things[word]: True for things in noted if word in things})


def in_turn(word, things):
    """Things of a word: None first, False ahead of True, then ascending, kinds in their order."""
    nothing = [None] if None in things else []
    others = [thing for thing in things if thing is not None]
    if word == "top":
        return tuple(nothing + [kind for kind in KINDS if kind in others])
    return tuple(nothing + sorted(others))


def may_notes(house, stand, minutes, place, word):
    """The things for which a note of a word may be so at a place."""
    chart = need_chart(house, stand, minutes)
    need_place(chart, place)
    if not is_word_of(word, WORDS):
        raise BadName(word)
    stands = stands_in(chart, acts_to_last(chart, leads_from_first(chart)), place)
    return in_turn(word, things_at(stands, str(word)))


def sure_notes(house, stand, minutes, place):
    """All notes that are sure at a place."""
    chart = need_chart(house, stand, minutes)
    need_place(chart, place)
    stands = stands_in(chart, acts_to_last(chart, leads_from_first(chart)), place)
    sure = []
    for word in WORDS:
        things = things_at(stands, word)
        if len(things) == 1 and all([word in things_noted(here) for here in stands]):
            sure.append(("note", word, things[0]))
    return tuple(sure)


class Charts:
    """A web with two minutes."""

    def __init__(self, near, far):
        self.near = near
        self.far = far


def need_charts(house, stand, minutes, other):
    """A web with two minutes, behind what is refused of them."""
    need_stand(house, stand)
    need_minutes_in(house, minutes)
    need_minutes_in(house, other)
    stands = list(web_steps(house, stand))
    tracks = [Track(house, plain(each)) for each in (minutes, other)]
    for track in tracks:
        need_few_pairs(stands, track)
    return Charts(Chart(tracks[0], plain(stand), stands), Chart(tracks[1], plain(stand), stands))


def both_steps(charts, triple):
    """What leads from a stand and two lots of pins to another one and lots that aren't both empty."""
    stand, pins, far_pins = triple
    near, far = charts.near.track, charts.far.track
    steps = [(act, (behind, led(near, act, behind, pins), led(far, act, behind, far_pins)))
             for act, behind in charts.near.steps[stand]]
    return [(act, behind) for act, behind in steps if behind[1] or behind[2]]


def first_triple(charts):
    """The first stand and the lots of all pins of both to which it leads at once."""
    first = charts.near.first
    return (first, settled(charts.near.track, first, 1), settled(charts.far.track, first, 1))


def triples_in(charts):
    """For each stand and two lots of pins that come by rows, in turn, what leads on from them."""
    return gone_through(first_triple(charts), lambda triple: both_steps(charts, triple), MOST_PAIRS)


def fits_of(charts, triple):
    """Whether the rows to a triple fit the first minutes, and whether they fit the others."""
    return (triple[1] & charts.near.track.last != 0, triple[2] & charts.far.track.last != 0)


def first_row_to(charts, is_asked):
    """The least row of which it is as asked whether it fits the first minutes and the others; None if there is none."""
    steps = triples_in(charts)
    for triple in steps:
        if is_asked(fits_of(charts, triple)):
            return row_by(ways_from(steps, first_triple(charts), is_any_let), triple)
    return None


def says_no_more(house, stand, minutes, other):
    """Whether each row that fits minutes fits others, too."""
    charts = need_charts(house, stand, minutes, other)
    return all([fits_of(charts, triple) != (True, False) for triple in triples_in(charts)])


def parting_fit(house, stand, minutes, other):
    """The least row that fits just one of two minutes, None if there is none."""
    return first_row_to(need_charts(house, stand, minutes, other), lambda fits: fits[0] != fits[1])


def both_fit(house, stand, minutes, other):
    """The least row that fits both of two minutes, None if there is none."""
    return first_row_to(need_charts(house, stand, minutes, other), lambda fits: fits == (True, True))


def fit_paper(house, stand, minutes):
    """A paper on whether some row fits."""
    chart = need_chart(house, stand, minutes)
    row = least_fit(chart)
    if row is not None:
        return ("fits", row, first_cuts(chart.track.entries, way_in_order(house, stand, row), row))
    leads = leads_from_first(chart)
    digits = [1 << number for number in range(len(chart.track.pins) - 1)]
    return ("none", tuple([tuple([here for here in chart.steps if (here, pin) in leads]) for pin in digits]))


def lots_told(house, lots):
    """The pairs of stands and pins of any value that is a tuple of tuples of unlike stands, else None."""
    told = {}
    for number, lot in enumerate(lots):
        stands = stands_told(house, lot) if isinstance(lot, tuple) else None
        if stands is None:
            return None
        for here in stands:
            told[here, 1 << number] = True
    return told


def does_lead_nowhere(chart, told):
    """Whether the first pair is told, and no pair leads to the last pin, or to one that isn't told."""
    if (chart.first, 1) not in told:
        return False
    steps = {here: steps_in(chart.track.hall, here) for here, _ in told}
    return all([behind in told for pair in told for behind in free_leads(chart.track, steps[pair[0]], pair)])


def need_fit_form(house, chart, paper):
    """The paper itself, of the form of its word; and of "none" the pairs that are told."""
    if is_tuple_of(paper, 3) and is_word_of(paper[0], ("fits",)):
        if isinstance(paper[1], tuple) and isinstance(paper[2], tuple):
            return None
    elif is_tuple_of(paper, 2) and is_word_of(paper[0], ("none",)):
        if is_tuple_of(paper[1], len(chart.track.pins) - 1):
            told = lots_told(house, paper[1])
            if told is not None:
                return told
    raise BadPaper("form")


def check_fit(house, stand, minutes, paper):
    """The word of a paper that shows that some row fits, or that none does."""
    chart = need_chart(house, stand, minutes)
    told = need_fit_form(house, chart, paper)
    if told is not None:
        if not does_lead_nowhere(chart, told):
            raise BadPaper("none")
        return "none"
    way = way_in_order(house, stand, paper[1])
    if len(way) <= len(paper[1]) or not does_cut(chart.track.entries, way, plain(paper[1]), paper[2]):
        raise BadPaper("fits")
    return "fits"

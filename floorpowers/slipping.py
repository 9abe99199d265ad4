"""Slipping: with how few slips of minutes some row fits, which slips may stand then or surely do, papers on that."""

from floorpowers.charts import free_leads, need_chart
from floorpowers.entries import need_minutes, need_minutes_in, stretch_ends
from floorpowers.errors import BadMinutes, BadPaper
from floorpowers.halls import steps_in
from floorpowers.reach import all_steps, cheapest_ways, costs_to
from floorpowers.rows import need_way_in, way_in_order
from floorpowers.stands import need_stand, stand_fault
from floorpowers.tracks import tells_act
from floorpowers.values import is_integer_from, is_natural, is_tuple_of, is_word_of, plain

SLIP_WORDS = ("left", "vain", "wrong")
MOST_SLIPS = 100


def is_slip(entries, value):
    """Whether any value is a slip of minutes, that are checked."""
    if not is_tuple_of(value, 2) or not is_word_of(value[0], SLIP_WORDS):
        return False
    if value[0] == "left":
        return is_integer_from(value[1], 0, len(entries))
    if not is_integer_from(value[1], 0, len(entries) - 1):
        return False
    return value[0] == "vain" or tells_act(entries[value[1]])


def slip_place(slip):
    """By what slips stand in their order: their number, "left" ahead of the other words."""
    return (slip[1], SLIP_WORDS.index(slip[0]))


def may_slip_behind(ahead, slip):
    """Whether a slip may stand right behind another one: "left" again, all else of an entry once."""
    if ahead[1] != slip[1]:
        return ahead[1] < slip[1]
    return ahead[0] == "left"


def slips_fault(entries, value):
    """The fault of what are no slips of minutes, that are checked: None, or the number of the first wrong thing."""
    if not isinstance(value, tuple) or len(value) > MOST_SLIPS:
        return (None,)
    for number, slip in enumerate(value):
        if not is_slip(entries, slip) or (number > 0 and not may_slip_behind(value[number - 1], slip)):
            return (number,)
    return ()


def need_slips_in(entries, slips):
    """The slips themselves, of minutes that are checked."""
    fault = slips_fault(entries, slips)
    if fault:
        raise BadMinutes(fault[0])
    return slips


def need_slips(house, minutes, slips):
    """The slips themselves."""
    need_minutes(house, minutes)
    return need_slips_in(minutes, slips)


def slipped_ends(entry, word, way, row, start):
    """Where the stretch of an entry may end that begins at a number, with the slip of a word on it, None of none."""
    if word == "vain":
        return [start]
    if word == "wrong":
        return [start + 1] if start < len(row) else []
    return stretch_ends(entry, way, row, start)


def does_slip(entries, slips, way, row):
    """Whether a row fits with slips; way are the stands on its way."""
    lefts = [slips.count(("left", place)) for place in range(len(entries) + 1)]
    words = {place: word for word, place in slips if word != "left"}
    starts = {0: True}
    for place, entry in enumerate(entries):
        begins = [start + lefts[place] for start in starts if start + lefts[place] <= len(row)]
        starts = {end: True for start in begins
                  for end in slipped_ends(entry, words.get(place), way, row, start)}
    return len(row) - lefts[-1] in starts


def fits_with(house, stand, minutes, slips, row):
    """Whether a row fits with slips."""
    need_stand(house, stand)
    need_minutes_in(house, minutes)
    need_slips_in(minutes, slips)
    way = need_way_in(house, stand, row)
    return does_slip(plain(minutes), plain(slips), way, plain(row))


def slip_leads(track, steps, pair):
    """The pairs to which a pair leads by one slip, with the slip, and with the first act by which it does, or None.

    steps are all acts in order of its stand, with the stands behind them.
    """
    stand, pin = pair
    leads = {}
    if pin not in track.begins:
        return leads
    place = track.begins.index(pin)
    for act, behind in steps:
        leads.setdefault(((behind, pin), ("left", place)), act)
    if pin != track.last:
        leads[(stand, track.begins[place + 1]), ("vain", place)] = None
        if tells_act(track.entries[place]):
            for act, behind in steps:
                leads.setdefault(((behind, track.begins[place + 1]), ("wrong", place)), act)
    return leads


def slipping_leads(chart, pair):
    """The steps to pairs to which a pair leads, each with how many slips it is, and with the act and the slip."""
    steps = chart.steps[pair[0]]
    leads = [(behind, 0, (act, None)) for behind, act in free_leads(chart.track, steps, pair).items()]
    slips = slip_leads(chart.track, steps, pair)
    return leads + [(behind, 1, (act, slip)) for (behind, slip), act in slips.items()]


class Slipping:
    """A web with minutes, and the cheapest ways to all pairs of a stand and a pin, slips costing one each."""

    def __init__(self, chart):
        self.chart = chart
        self.begin = (chart.first, 1)
        self.leads = all_steps(self.begin, lambda pair: slipping_leads(chart, pair))
        self.ways = cheapest_ways(self.begin, lambda pair: self.leads[pair])
        self.ends = [pair for pair in self.leads if pair[1] == chart.track.last]
        self.fewest = min([self.ways[pair][0] for pair in self.ends])


def slipping_from(house, stand, minutes):
    """The cheapest ways with minutes, behind what is refused of them."""
    return Slipping(need_chart(house, stand, minutes))


def fewest_slips(house, stand, minutes):
    """The least number of slips with which some row fits."""
    return slipping_from(house, stand, minutes).fewest


def cheapest_row(slipping):
    """A row that fits with the fewest slips, and these."""
    pair = [each for each in slipping.ends if slipping.ways[each][0] == slipping.fewest][0]
    labels = []
    while slipping.ways[pair][1] is not None:
        _, pair, label = slipping.ways[pair]
        labels.append(label)
    acts = [act for act, _ in labels[::-1] if act is not None]
    return (tuple(acts), tuple([slip for _, slip in labels[::-1] if slip is not None]))


def slipped_row(house, stand, minutes):
    """A row that fits with the fewest slips, and these."""
    return cheapest_row(slipping_from(house, stand, minutes))


def good_leads(slipping):
    """For each pair on a way with the fewest slips those of its steps that are on one."""
    back = costs_to(slipping.leads, slipping.ends)
    good = {}
    for pair, told in slipping.leads.items():
        rest = slipping.fewest - slipping.ways[pair][0]
        good[pair] = [step for step in told if step[0] in back and step[1] + back[step[0]] == rest]
    return good


def slips_in(slipping):
    """The slips that stand in some of the fewest, in their order; the steps on ways with the fewest are told."""
    good = good_leads(slipping)
    slips = {label[1]: True for told in good.values() for _, cost, label in told if cost == 1}
    return good, [slip for _, slip in sorted([(slip_place(each), each) for each in slips])]


def may_slips(house, stand, minutes):
    """All slips that stand in some of the fewest slips with which some row fits."""
    _, slips = slips_in(slipping_from(house, stand, minutes))
    return tuple(slips)


def does_end_without(slipping, good, slip):
    """Whether some way with the fewest slips comes to its end without a slip; good are the steps on such ways."""
    steps = all_steps(slipping.begin, lambda pair: [step for step in good[pair] if step[2][1] != slip])
    return any([pair in steps for pair in slipping.ends])


def sure_slips(house, stand, minutes):
    """All slips that stand in all of the fewest slips with which some row fits."""
    slipping = slipping_from(house, stand, minutes)
    good, slips = slips_in(slipping)
    return tuple([slip for slip in slips if not does_end_without(slipping, good, slip)])


def texts_by_slips(house, stand, minutes):
    """For each text of a stand of the web, ascending, the fewest slips with which a row fits behind which it stands."""
    slipping = slipping_from(house, stand, minutes)
    fewest = {}
    for here, pin in slipping.ends:
        cost = slipping.ways[here, pin][0]
        fewest[here[1]] = min(cost, fewest.get(here[1], cost))
    return tuple(sorted(list(fewest.items())))


def slip_paper(house, stand, minutes):
    """A paper on the fewest slips."""
    slipping = slipping_from(house, stand, minutes)
    track = slipping.chart.track
    row, slips = cheapest_row(slipping)
    marks = tuple([marks_of(slipping, 1 << number) for number in range(len(track.pins))])
    return ("slips", row, slips, marks)


def marks_of(slipping, pin):
    """The pairs of stands that come with a pin, in the web's turn, and with how many slips they do."""
    ways = slipping.ways
    return tuple([(here, ways[here, pin][0]) for here in slipping.chart.steps if (here, pin) in ways])


def is_mark(house, value):
    """Whether any value is a pair of a stand and a number."""
    return is_tuple_of(value, 2) and stand_fault(house, value[0]) == () and is_natural(value[1])


def marks_told(house, marks):
    """For each pair of a stand and a pin in a tuple of anything its mark, None of what has not the form of marks."""
    told = {}
    for number, pairs in enumerate(marks):
        if not isinstance(pairs, tuple) or not all([is_mark(house, pair) for pair in pairs]):
            return None
        fresh = {(plain(stand), 1 << number): mark for stand, mark in pairs}
        if len(fresh) < len(pairs):
            return None
        for pair, mark in fresh.items():
            told[pair] = mark
    return told


def need_slip_form(house, chart, paper):
    """The marks of a paper, behind what is refused of its form."""
    if not is_tuple_of(paper, 4) or not is_word_of(paper[0], ("slips",)):
        raise BadPaper("form")
    if not isinstance(paper[1], tuple) or slips_fault(chart.track.entries, paper[2]):
        raise BadPaper("form")
    told = marks_told(house, paper[3]) if is_tuple_of(paper[3], len(chart.track.pins)) else None
    if told is None:
        raise BadPaper("form")
    return told


def is_marked_right(chart, told, steps, pair):
    """Whether all pairs to which a pair leads are told, by no slip with no greater mark, by one with one greater."""
    mark = told[pair]
    free = [told.get(behind, mark + 1) for behind in free_leads(chart.track, steps, pair)]
    slipped = [told.get(behind, mark + 2) for behind, _ in slip_leads(chart.track, steps, pair)]
    return all([other <= mark for other in free]) and all([other <= mark + 1 for other in slipped])


def are_marks_right(chart, told, many):
    """Whether marks show that fewer slips than many don't do."""
    if told.get((chart.first, 1)) != 0:
        return False
    steps = {here: steps_in(chart.track.hall, here) for here, _ in told}
    if not all([is_marked_right(chart, told, steps[pair[0]], pair) for pair in told]):
        return False
    return all([mark >= many for pair, mark in told.items() if pair[1] == chart.track.last])


def check_slips(house, stand, minutes, paper):
    """How many slips a paper shows to be the fewest with which some row fits."""
    chart = need_chart(house, stand, minutes)
    told = need_slip_form(house, chart, paper)
    slips = plain(paper[2])
    way = way_in_order(house, stand, paper[1])
    if len(way) <= len(paper[1]) or not does_slip(chart.track.entries, slips, way, plain(paper[1])):
        raise BadPaper("slips")
    if not are_marks_right(chart, told, len(slips)):
        raise BadPaper("marks")
    return len(slips)

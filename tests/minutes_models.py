"""Minutes worked out apart from the package, by the words alone: entries, cuts, pins, slips, and pairs that lead on."""

from functools import lru_cache
from itertools import combinations_with_replacement

from sittings import KINDS, acts, after, all_acts, graph, lots

WORDS = ("text", "table", "top", "turn", "over")
ONE_ACT = ("act", "one", "kind", "voted")


def does_note(stand, word, thing):
    """Whether a note is so."""
    if word == "over":
        return (stand[0] == "over") is thing
    if word == "text":
        return stand[1] == thing
    if stand[0] == "over":
        return False
    if word == "table":
        return stand[2] == thing
    if word == "turn":
        return stand[5] == thing
    return (stand[3][-1][0] if stand[3] else None) == thing


def does_tell(entry, act):
    """Whether an act is as an entry tells."""
    word, told = entry[0], entry[1]
    if word == "act":
        return act == told
    if word == "one":
        return act in told
    if word == "kind":
        return act[0] == "move" and act[1][0] == told
    return act[0] == "vote" and set(told) <= set(act[1]) and not set(entry[2]) & set(act[1])


def is_stretch(entry, stand, stretch):
    """Whether acts from a stand on are as an entry tells."""
    if entry[0] == "note":
        return stretch == () and does_note(stand, entry[1], entry[2])
    if entry[0] == "gap":
        return len(stretch) >= entry[1] and (entry[2] is None or len(stretch) <= entry[2])
    return len(stretch) == 1 and does_tell(entry, stretch[0])


def cuts_of(minutes, way, row):
    """All cuts by which a row fits, ascending."""
    told = [(0,)]
    for entry in minutes:
        told = [cut + (end,) for cut in told for end in range(cut[-1], len(row) + 1)
                if is_stretch(entry, way[cut[-1]], row[cut[-1]:end])]
    return [cut for cut in sorted(told) if cut[-1] == len(row)]


def all_pins(minutes):
    """All pins."""
    pins = []
    for number, entry in enumerate(minutes):
        most = 0
        if entry[0] == "gap":
            most = entry[1] if entry[2] is None else entry[2]
        pins += [(number, k) for k in range(most + 1)]
    return pins + [(len(minutes), 0)]


def leads(house, minutes, stand, pin):
    """The triples of an act, or None, a stand and a pin to which a pair leads."""
    number, k = pin
    if number == len(minutes):
        return []
    entry = minutes[number]
    if entry[0] == "note":
        return [(None, stand, (number + 1, 0))] if does_note(stand, entry[1], entry[2]) else []
    steps = [(act, after(house, stand, act)) for act in acts(house, stand)]
    if entry[0] != "gap":
        return [(act, behind, (number + 1, 0)) for act, behind in steps if does_tell(entry, act)]
    least, most = entry[1:]
    told = [(None, stand, (number + 1, 0))] if k >= least else []
    if most is None:
        return told + [(act, behind, pin if k == least else (number, k + 1)) for act, behind in steps]
    return told + [(act, behind, (number, k + 1)) for act, behind in steps if k < most]


def slips_leading(house, minutes, stand, pin):
    """The tuples of a slip, an act or None, a stand and a pin to which a pair leads by one slip."""
    number, k = pin
    if k > 0:
        return []
    steps = [(act, after(house, stand, act)) for act in acts(house, stand)]
    told = [(("left", number), act, behind, pin) for act, behind in steps]
    if number < len(minutes):
        told.append((("vain", number), None, stand, (number + 1, 0)))
        if minutes[number][0] in ONE_ACT:
            told += [(("wrong", number), act, behind, (number + 1, 0)) for act, behind in steps]
    return told


@lru_cache(maxsize=None)
def pair_graph(house, stand, minutes):
    """For each pair that comes of the first one the triples of an act, or None, and the pair behind it."""
    found, left = {}, [(stand, (0, 0))]
    while left:
        here, pin = left.pop()
        if (here, pin) not in found:
            found[here, pin] = [(act, (behind, other)) for act, behind, other in leads(house, minutes, here, pin)]
            left += [pair for _, pair in found[here, pin]]
    return found


@lru_cache(maxsize=None)
def good_pairs(house, stand, minutes):
    """The pairs that come of the first one and lead to the last pin."""
    told = pair_graph(house, stand, minutes)
    good = {pair for pair in told if pair[1] == (len(minutes), 0)}
    changed = True
    while changed:
        fresh = {pair for pair, behind in told.items() if any(other in good for _, other in behind)} - good
        good |= fresh
        changed = bool(fresh)
    return good


def pins_by(house, minutes, way, row):
    """The pins to which a row leads."""
    now = spread(house, minutes, way[0], {(0, 0)})
    for act, here, behind in zip(row, way, way[1:]):
        then = {pin for old in now for done, _, pin in leads(house, minutes, here, old) if done == act}
        now = spread(house, minutes, behind, then)
    return tuple(sorted(now))


def spread(house, minutes, stand, pins):
    """Pins with those to which they lead without an act."""
    found, left = set(), list(pins)
    while left:
        pin = left.pop()
        if pin not in found:
            found.add(pin)
            left += [other for act, _, other in leads(house, minutes, stand, pin) if act is None]
    return found


def does_slip(minutes, way, row, slips):
    """Whether a row fits with slips, by all ways to cut it."""
    starts = {0}
    for place, entry in enumerate(minutes):
        starts = {start + slips.count(("left", place)) for start in starts}
        starts = {start for start in starts if start <= len(row)}
        if ("vain", place) in slips:
            continue
        if ("wrong", place) in slips:
            starts = {start + 1 for start in starts if start < len(row)}
            continue
        starts = {end for start in starts for end in range(start, len(row) + 1)
                  if is_stretch(entry, way[start], row[start:end])}
    return len(row) in {start + slips.count(("left", len(minutes))) for start in starts}


def slip_order(minutes):
    """All slips, in their order."""
    told = []
    for place in range(len(minutes) + 1):
        told.append(("left", place))
        if place < len(minutes):
            told.append(("vain", place))
            if minutes[place][0] in ONE_ACT:
                told.append(("wrong", place))
    return told


def all_slips(minutes, many):
    """All SLIPS of so many."""
    told = []
    for slips in combinations_with_replacement(slip_order(minutes), many):
        entries = [place for word, place in slips if word != "left"]
        if len(set(entries)) == len(entries):
            told.append(slips)
    return told


@lru_cache(maxsize=None)
def slip_costs(house, stand, minutes):
    """For each pair of a stand and a pin the least number of slips by which it comes."""
    costs, left = {(stand, (0, 0)): 0}, [(stand, (0, 0))]
    while left:
        here, pin = left.pop()
        cost = costs[here, pin]
        steps = [((behind, other), cost) for _, behind, other in leads(house, minutes, here, pin)]
        steps += [((behind, other), cost + 1) for _, _, behind, other in slips_leading(house, minutes, here, pin)]
        for pair, more in steps:
            if more < costs.get(pair, more + 1):
                costs[pair] = more
                left.append(pair)
    return costs


@lru_cache(maxsize=None)
def ways_with_slips(house, stand, minutes, fewest):
    """All SLIPS of so many, and no more, with which some row fits: pairs with the slips that lead there."""
    found, left = set(), [(stand, (0, 0), ())]
    ends = set()
    while left:
        state = left.pop()
        if state in found:
            continue
        found.add(state)
        here, pin, slips = state
        if pin == (len(minutes), 0) and len(slips) == fewest:
            ends.add(slips)
        left += [(behind, other, slips) for _, behind, other in leads(house, minutes, here, pin)]
        if len(slips) < fewest:
            left += [(behind, other, slips + (slip,))
                     for slip, _, behind, other in slips_leading(house, minutes, here, pin)]
    return ends


def things_of(word, house):
    """All things of a note, in their turn."""
    texts = list(lots(house[1]))
    kinds = [kind for kind in KINDS if kind in [rule[0] for rule in house[2]]]
    return {"text": texts, "table": [None] + texts, "top": [None] + kinds, "turn": list(range(len(house[0]))),
            "over": [False, True]}[word]


def drawn_entry(house, state):
    """An entry, drawn always in the same way, and the next state."""
    def draw(things):
        nonlocal state
        state = (state * 1103515245 + 12345) & 0x7FFFFFFF
        return things[(state >> 8) % len(things)]

    told = list(all_acts(house))
    many = len(house[0])
    word = draw(["act", "one", "kind", "voted", "gap", "gap", "gap", "note"])
    if word == "act":
        return ("act", draw(told)), state
    if word == "one":
        return ("one", tuple(sorted({draw(told) for _ in range(4)}))), state
    if word == "kind":
        return ("kind", draw([rule[0] for rule in house[2]])), state
    if word == "voted":
        yes = draw(list(lots(many)))
        return ("voted", yes, tuple(one for one in draw(list(lots(many))) if one not in yes)), state
    if word == "gap":
        least = draw([0, 0, 1, 2, 3])
        return ("gap", least, draw([None, None, least, least + 1, least + 3])), state
    note = draw(list(WORDS))
    return ("note", note, draw(things_of(note, house))), state


def drawn_minutes(house, many, state):
    """Minutes of so many entries, drawn always in the same way."""
    minutes = ()
    for _ in range(many):
        entry, state = drawn_entry(house, state)
        minutes += (entry,)
    return minutes


def told_by(house, stand, row, every):
    """Minutes of what comes by a row: each so many acts one is told, gaps between, with notes of what is so."""
    minutes = (("gap", 0, None),)
    for number, act in enumerate(row):
        if number % every == 0 and len(minutes) < 9:
            told = ("act", act)
            if act[0] == "vote" and number % 2:
                told = ("voted", act[1][:1], ())
            elif act[0] == "move" and number % 2:
                told = ("kind", act[1][0])
            minutes += (told, ("gap", 0, None if number % 3 else 9))
        stand = after(house, stand, act)
    return minutes + (("note", "text", stand[1]),)


def web_stands(house, stand):
    """All stands of the web, in any order."""
    return list(graph(house, stand))

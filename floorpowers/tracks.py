"""Tracks: minutes made ready for following rows by their pins. Nothing is checked here, and all values are plain ones.

The pins of minutes are numbered as they ascend; some of them are told as an integer, by its binary digits.
"""

from floorpowers.halls import Hall
from floorpowers.subsets import all_subsets, is_within

TELLING_WORDS = ("act", "one", "kind", "voted")


def tells_act(entry):
    """Whether an entry tells of one act."""
    return entry[0] in TELLING_WORDS


def is_told(entry, act):
    """Whether an act is as an entry tells, that tells of one act."""
    word = entry[0]
    if word == "act":
        return act == entry[1]
    if word == "one":
        return act in entry[1]
    if word == "kind":
        return act[0] == "move" and act[1][0] == entry[1]
    return act[0] == "vote" and is_within(entry[1], act[1]) and not any([member in act[1] for member in entry[2]])


def things_noted(stand):
    """For each word of a note the thing for which it is so in a stand; of one that is over just two words."""
    if stand[0] == "over":
        return {"text": stand[1], "over": True}
    pile = stand[3]
    return {"text": stand[1], "table": stand[2], "top": pile[-1][0] if pile else None, "turn": stand[5], "over": False}


def is_note_so(stand, note):
    """Whether a note is so in a stand."""
    things = things_noted(stand)
    return note[1] in things and things[note[1]] == note[2]


def most_in(entry):
    """The greatest number of a pin of an entry."""
    if entry[0] != "gap":
        return 0
    return entry[1] if entry[2] is None else entry[2]


def pins_told(entries):
    """All pins of minutes, ascending."""
    pins = [(number, count) for number, entry in enumerate(entries) for count in range(most_in(entry) + 1)]
    return pins + [(len(entries), 0)]


def all_acts(hall):
    """All acts of a house, in order or not."""
    moves = [("move", motion) for motions in hall.motions.values() for motion in motions]
    return [("pass",)] + moves + [("vote", lot) for lot in all_subsets(hall.many)]


class Track:
    """Minutes of a house, with what leads from pin to pin.

    begins has the first pin of each place; shut those pins that are left without an act, if at all, for the next place;
    staying those that an act leads to themselves; told, for each act, those that it leads to the next pin.
    """

    def __init__(self, house, entries):
        self.hall = Hall(house)
        self.entries = entries
        self.pins = pins_told(entries)
        self.begins = [1 << number for number, pin in enumerate(self.pins) if pin[1] == 0]
        self.last = self.begins[-1]
        self.shut = [leaving_pins(entry, begin) for entry, begin in zip(entries, self.begins)]
        self.staying = sum([begin << entry[1] for entry, begin in zip(entries, self.begins) if is_open(entry)])
        onward = sum([waiting_pins(entry, begin) for entry, begin in zip(entries, self.begins)])
        self.told = {act: onward + told_begins(entries, self.begins, act) for act in all_acts(self.hall)}


def is_open(entry):
    """Whether an entry is a gap of any number of acts."""
    return entry[0] == "gap" and entry[2] is None


def told_begins(entries, begins, act):
    """The pins of the entries that tell of one act, as which this act is."""
    return sum([begin for entry, begin in zip(entries, begins) if tells_act(entry) and is_told(entry, act)])


def leaving_pins(entry, begin):
    """The pins of an entry that lead to the next place without an act; of a note if it is so."""
    if entry[0] == "gap":
        return sum([begin << count for count in range(entry[1], most_in(entry) + 1)])
    return begin if entry[0] == "note" else 0


def waiting_pins(entry, begin):
    """The pins of a gap that any act leads to the next pin."""
    return sum([begin << count for count in range(most_in(entry))])


def moved(track, act, pins):
    """The pins to which pins are led by an act."""
    return ((pins & track.told[act]) << 1) | (pins & track.staying)


def is_passed(entry, stand):
    """Whether an entry is over without an act, once there are enough: a gap, or a note that is so."""
    return entry[0] == "gap" or (entry[0] == "note" and is_note_so(stand, entry))


def settled(track, stand, pins):
    """Pins with all those to which they lead in a stand without an act."""
    found = pins
    for entry, shut, begin in zip(track.entries, track.shut, track.begins[1:]):
        if found & shut and is_passed(entry, stand):
            found = found | begin
    return found


def led(track, act, behind, pins):
    """The pins to which pins are led by an act, and then in the stand behind it."""
    return settled(track, behind, moved(track, act, pins))


def digits_of(pins):
    """The numbers of some pins, ascending."""
    return [number for number in range(pins.bit_length()) if pins >> number & 1]


def pins_behind(track, way, row):
    """The pins to which a row leads, as the digits of an integer; way are the stands on its way."""
    pins = settled(track, way[0], 1)
    for act, behind in zip(row, way[1:]):
        pins = led(track, act, behind, pins)
    return pins

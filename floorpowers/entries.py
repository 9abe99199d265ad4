"""Entries: what minutes tell of acts and stands, and whether a row fits them."""

from floorpowers.acts import is_act
from floorpowers.errors import BadMinutes, TooGreat
from floorpowers.houses import book_kinds, member_count, need_house, text_fault
from floorpowers.rows import need_way_in
from floorpowers.stands import need_stand
from floorpowers.subsets import subset_fault
from floorpowers.tracks import Track, digits_of, is_note_so, is_told, pins_behind
from floorpowers.values import climb_fault, is_integer_from, is_word_of, plain

WORDS = ("text", "table", "top", "turn", "over")
ENTRY_SIZES = {"act": 2, "one": 2, "kind": 2, "voted": 3, "gap": 3, "note": 3}
MOST_ENTRIES = 12
MOST_ACTS = 8
MOST_GAP = 9
MOST_CUTS = 400


def are_acts(house, value):
    """Whether any value is an ascending tuple of few acts."""
    if climb_fault(value, lambda item: is_act(house, item)):
        return False
    return 1 <= len(value) <= MOST_ACTS


def are_apart(house, value, other):
    """Whether any two values are lots without a member in common."""
    many = member_count(house)
    if subset_fault(many, value) or subset_fault(many, other):
        return False
    return not any([member in other for member in value])


def is_gap(least, most):
    """Whether any two values are how many acts a gap has at least and at most."""
    if not is_integer_from(least, 0, MOST_GAP):
        return False
    return most is None or is_integer_from(most, least, MOST_GAP)


def is_thing(house, word, value):
    """Whether any value is a thing of which a note of this word may tell."""
    if word == "text":
        return text_fault(house, value) == ()
    if word == "table":
        return value is None or text_fault(house, value) == ()
    if word == "top":
        return value is None or is_word_of(value, book_kinds(house))
    if word == "turn":
        return is_integer_from(value, 0, member_count(house) - 1)
    return isinstance(value, bool)


def is_entry_in(house, value):
    """Whether any value is an entry, of a house that is checked."""
    if not isinstance(value, tuple) or not value or not is_word_of(value[0], list(ENTRY_SIZES)):
        return False
    word = value[0]
    if len(value) != ENTRY_SIZES[word]:
        return False
    if word == "act":
        return is_act(house, value[1])
    if word == "one":
        return are_acts(house, value[1])
    if word == "kind":
        return is_word_of(value[1], book_kinds(house))
    if word == "voted":
        return are_apart(house, value[1], value[2])
    if word == "gap":
        return is_gap(value[1], value[2])
    return is_word_of(value[1], WORDS) and is_thing(house, value[1], value[2])


def is_entry(house, value):
    """Whether any value is an entry."""
    need_house(house)
    return is_entry_in(house, value)


def need_minutes_in(house, minutes):
    """The minutes themselves, of a house that is checked."""
    if not isinstance(minutes, tuple) or len(minutes) > MOST_ENTRIES:
        raise BadMinutes(None)
    for number, entry in enumerate(minutes):
        if not is_entry_in(house, entry):
            raise BadMinutes(number)
    return minutes


def need_minutes(house, minutes):
    """The minutes themselves."""
    need_house(house)
    return need_minutes_in(house, minutes)


def is_noted(house, stand, note):
    """Whether a note is so in a stand."""
    need_stand(house, stand)
    if not is_entry_in(house, note) or note[0] != "note":
        raise BadMinutes(None)
    return is_note_so(plain(stand), plain(note))


def need_minuted_way(house, stand, minutes, row):
    """The stands on the way of a row, behind what is refused of minutes."""
    need_stand(house, stand)
    need_minutes_in(house, minutes)
    return need_way_in(house, stand, row)


def stretch_ends(entry, way, row, start):
    """Where the stretch of an entry may end that begins ahead of the act with a number, ascending."""
    if entry[0] == "note":
        return [start] if is_note_so(way[start], entry) else []
    if entry[0] == "gap":
        last = len(row) if entry[2] is None else min(len(row), start + entry[2])
        return list(range(start + entry[1], last + 1))
    return [start + 1] if start < len(row) and is_told(entry, row[start]) else []


def cut_counts(entries, way, row):
    """For each place, for each number of acts by which it may be reached, in how many ways the rest can be cut."""
    counts = [{len(row): 1}]
    for entry in entries[::-1]:
        behind = counts[-1]
        counts.append({start: sum([behind.get(end, 0) for end in stretch_ends(entry, way, row, start)])
                       for start in range(len(row) + 1)})
    return counts[::-1]


def does_fit(house, stand, minutes, row):
    """Whether a row fits minutes."""
    way = need_minuted_way(house, stand, minutes, row)
    track = Track(house, plain(minutes))
    return pins_behind(track, way, plain(row)) & track.last != 0


def all_cuts(house, stand, minutes, row):
    """All cuts by which a row fits minutes, ascending."""
    way = need_minuted_way(house, stand, minutes, row)
    entries = plain(minutes)
    acts = plain(row)
    counts = cut_counts(entries, way, acts)
    if counts[0].get(0, 0) > MOST_CUTS:
        raise TooGreat(MOST_CUTS)
    cuts = [(0,)] if counts[0].get(0, 0) > 0 else []
    for entry, behind in zip(entries, counts[1:]):
        cuts = [cut + (end,) for cut in cuts for end in stretch_ends(entry, way, acts, cut[-1])
                if behind.get(end, 0) > 0]
    return tuple(cuts)


def first_cuts(entries, way, row):
    """The least cuts by which a row fits, that does."""
    cuts = [0]
    for entry, behind in zip(entries, cut_counts(entries, way, row)[1:]):
        cuts.append([end for end in stretch_ends(entry, way, row, cuts[-1]) if behind.get(end, 0) > 0][0])
    return tuple(cuts)


def does_cut(entries, way, row, cuts):
    """Whether a tuple of anything has cuts by which a row fits; way are the stands on its way."""
    if len(cuts) != len(entries) + 1 or not all([is_integer_from(cut, 0, len(row)) for cut in cuts]):
        return False
    if cuts[0] != 0 or cuts[-1] != len(row):
        return False
    return all([end in stretch_ends(entry, way, row, start) for entry, start, end in zip(entries, cuts, cuts[1:])])


def pins_of(house, stand, minutes, row):
    """All pins to which a row leads, ascending."""
    way = need_minuted_way(house, stand, minutes, row)
    track = Track(house, plain(minutes))
    return tuple([track.pins[number] for number in digits_of(pins_behind(track, way, plain(row)))])

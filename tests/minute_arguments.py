"""For test_arguments: the functions of minutes, with right and wrong arguments."""

from floorpowers.errors import BadMinutes, BadName, BadNumber, BadPaper
from floorpowers.fitting import fit_paper
from floorpowers.slipping import slip_paper
from helpers import strange_values
from row_arguments import FROM_STAND, HOUSE, HOUSE_ROW, ROW, STAND, no_tuples

PASS = ("pass",)
GAP = ("gap", 0, None)
MINUTES = (("gap", 0, 3), ("kind", "close"), ("note", "top", "close"), ("one", (("move", ("close",)), PASS)),
           ("gap", 1, None), ("voted", (0,), (1,)), ("note", "over", False))
OTHER = (("gap", 1, None), ("act", PASS), ("gap", 0, 4))
SLIPS = (("left", 0), ("vain", 2), ("wrong", 3), ("left", 7), ("left", 7))
MINUTES_ROW = ("minutes", MINUTES, "minutes")
OTHER_ROW = ("other", OTHER, "minutes")
MINUTED = FROM_STAND + [MINUTES_ROW]
WITH_ROW = MINUTED + [("row", ROW, "row")]
PLACE_ROW = ("place", 4, "place")
MANY_ROW = ("many", 12, "up to thirty")

FUNCTIONS = {
    "entries": {
        "need_minutes": [HOUSE_ROW, MINUTES_ROW],
        "is_entry": [HOUSE_ROW, ("value", ("voted", (0,), (1, 2)), None)],
        "is_noted": FROM_STAND + [("note", ("note", "top", "amend"), "note")],
        "does_fit": WITH_ROW,
        "all_cuts": WITH_ROW,
        "pins_of": WITH_ROW,
    },
    "fitting": {
        "first_fit": MINUTED,
        "fits_counted": MINUTED + [MANY_ROW],
        "fit_at": MINUTED + [MANY_ROW, ("number", 3, "number of fits")],
        "stands_at": MINUTED + [PLACE_ROW],
        "entry_acts": MINUTED + [("place", 3, "place of an act")],
        "may_notes": MINUTED + [PLACE_ROW, ("word", "turn", "note word")],
        "sure_notes": MINUTED + [PLACE_ROW],
        "says_no_more": MINUTED + [OTHER_ROW],
        "parting_fit": MINUTED + [OTHER_ROW],
        "both_fit": MINUTED + [OTHER_ROW],
        "fit_paper": MINUTED,
        "check_fit": MINUTED + [("paper", fit_paper(HOUSE, STAND, MINUTES), "fit paper")],
    },
    "slipping": {
        "need_slips": [HOUSE_ROW, MINUTES_ROW, ("slips", SLIPS, "slips")],
        "fits_with": MINUTED + [("slips", SLIPS, "slips"), ("row", ROW, "row")],
        "fewest_slips": MINUTED,
        "slipped_row": MINUTED,
        "may_slips": MINUTED,
        "sure_slips": MINUTED,
        "texts_by_slips": MINUTED,
        "slip_paper": MINUTED,
        "check_slips": MINUTED + [("paper", slip_paper(HOUSE, STAND, MINUTES), "slip paper")],
    },
}


def no_entries():
    """What are no entries of the house."""
    return strange_values() + [(), ("act",), ("act", ("move", ("lay",))), ("one", ()), ("one", (PASS, PASS)),
                               ("kind", "lay"), ("voted", (0,), (0,)), ("gap", 2, 1), ("gap", 0, 10), ("gap", 10, None),
                               ("note", "text", (2,)), ("note", "top", "take"), ("note", "over", 1), list(GAP),
                               ("note", "turn", 3), ("note", "left", 1), ("gap", 1, True)]


def wrong_minutes():
    """What are no minutes: test_entries goes through all entries."""
    pairs = [(value, None) for value in no_tuples() + [(GAP,) * 13]] + [((value,), 0) for value in no_entries()]
    pairs += [((GAP, value, None), 1) for value in no_entries()] + [((GAP,) * 11 + (None,), 11)]
    return [(value, BadMinutes, {"place": place}) for value, place in pairs]


def wrong_notes():
    """What are no notes."""
    more = [GAP, ("act", PASS), ("kind", "put"), ("voted", (), ())]
    return [(value, BadMinutes, {"place": None}) for value in no_entries() + more]


def wrong_slips():
    """What are no slips of the minutes: test_slipping goes through all."""
    left = ("left", 0)
    pairs = [(value, None) for value in no_tuples() + [(left,) * 101]]
    pairs += [((left, value), 1) for value in strange_values() + [(), ("left",), ("vain", 7), ("wrong", 0),
                                                                  ("wrong", 6),
                                                                  ("left", 8), ("left", True), ["left", 0]]]
    pairs += [((("vain", 0), left), 1), ((("wrong", 1), ("vain", 1)), 1), ((("vain", 1),) * 2, 1)]
    return [(value, BadMinutes, {"place": place}) for value, place in pairs]


def refused(kind, field, values):
    """Values, each refused by itself."""
    return [(value, kind, {field: value}) for value in values]


def wrong_fit_papers():
    """What shows neither that some row fits the minutes nor that none does."""
    form = [(), ("fits", ()), ("fits", (), (), ()), ["fits", (), ()], ("none",), ("none", ()), ("none", ((),)),
            ("x", (), ())]
    form += no_tuples() + [("fits", value, ()) for value in no_tuples()] + [("fits", (), v) for v in no_tuples()]
    papers = [("fits", (), ()), ("fits", ROW, ()), ("fits", (None,), ()), ("none", ((),) * 11)]
    return [(value, BadPaper, {"word": "form"}) for value in form + [("none", ((),) * 12)]] + [
        (value, BadPaper, {"word": value[0]}) for value in papers]


def wrong_slip_papers():
    """What shows no fewest slips of the minutes."""
    word, row, slips, marks = slip_paper(HOUSE, STAND, MINUTES)
    form = [(), (word, row, slips), (word, row, slips, marks, ()), [word, row, slips, marks], (word, row, slips, ()),
            (word, row, (("wrong", 0),), marks), (word, row, slips, marks[:-1] + (((STAND, -1),),))]
    form += no_tuples() + [(value, row, slips, marks) for value in no_tuples()]
    form += [(word, value, slips, marks) for value in no_tuples()]
    form += [(word, row, value, marks) for value in no_tuples()]
    form += [(word, row, slips, value) for value in no_tuples()]
    told = [(value, "form") for value in form]
    told += [((word, (None,), slips, marks), "slips"), ((word, row, slips + (("left", 7),), marks), "slips"),
             ((word, row, slips, ((),) * len(marks)), "marks")]
    return [(value, BadPaper, {"word": fault}) for value, fault in told]


WRONG = {
    "minutes": wrong_minutes,
    "note": wrong_notes,
    "slips": wrong_slips,
    "place": lambda: refused(BadNumber, "value", strange_values() + [-1, 8, (), "1"]),
    "place of an act": lambda: refused(BadNumber, "value", strange_values() + [-1, 0, 2, 4, 6, 7, 8, ()]),
    "up to thirty": lambda: refused(BadNumber, "value", strange_values() + [-1, 31, (), "1"]),
    "number of fits": lambda: refused(BadNumber, "value", strange_values() + [-1, 10 ** 20, (), "1"]),
    "note word": lambda: refused(BadName, "name", strange_values() + ["left", "passes", "Text", ("text",), 0]),
    "fit paper": wrong_fit_papers,
    "slip paper": wrong_slip_papers,
}

"""For test_arguments: the functions of texts and sheets, with right and wrong arguments."""

from floorpowers.errors import (BadAct, BadGoal, BadHouse, BadLot, BadMember, BadMotion, BadRow, BadStand, BadText,
                                BadWords)
from floorpowers.texts import house_text, row_text, short_text, stand_text
from helpers import strange_values
from row_arguments import FROM_STAND, HOUSE, HOUSE_ROW, ROW, STAND, WITH_ROW

SHEET_HOUSE = HOUSE[:4] + (1,)
SHEET = "\n".join([house_text(SHEET_HOUSE), "begin 0 turn 1", "row a", "pass", "move amend 1", "lot b 0 2",
                   "goal c none or 1", "goal d never", "ends a 0", "forces b c", "comes d", "breaks a 1"])
ACTS = (("vote", (0,)), ("move", ("amend", 1)), ("pass",))

FUNCTIONS = {
    "texts": {
        "house_text": [HOUSE_ROW],
        "motion_text": [HOUSE_ROW, ("motion", ("put", (0, 1)), "motion")],
        "act_text": [HOUSE_ROW, ("act", ("vote", (0, 2)), "act")],
        "row_text": [HOUSE_ROW, ("row", ACTS, "acts")],
        "stand_text": FROM_STAND,
        "read_house": [("text", house_text(HOUSE), "house text")],
        "read_motion": [HOUSE_ROW, ("text", "put 0 1", "motion text")],
        "read_act": [HOUSE_ROW, ("text", "vote none", "act text")],
        "read_row": [HOUSE_ROW, ("text", row_text(HOUSE, ACTS), "row text")],
        "read_stand": [HOUSE_ROW, ("text", stand_text(HOUSE, STAND), "stand text")],
        "short_text": WITH_ROW,
        "read_short": FROM_STAND + [("text", short_text(HOUSE, STAND, ROW), "short text")],
    },
    "sheets": {
        "sheet_told": [("text", SHEET, "sheet text")],
        "judged": [("text", SHEET, "sheet text")],
    },
}


def no_words(pairs):
    """What are no strings, and texts with the line and the word that can't stand there."""
    told = [(value, BadWords, {"line": None, "word": None}) for value in strange_values()
            if not isinstance(value, str)]
    told += [(text, BadWords, {"line": 0, "word": 0}) for text in ("", "strange", " ", "\n", "Pass")]
    return told + [(text, BadWords, {"line": line, "word": word}) for text, line, word in pairs]


MOTION_PAIRS = [("put", 0, 1), ("put 1 0", 0, 2), ("amend 1 1", 0, 2), ("lay ", 0, 1), ("close\n", 1, 0),
                ("pass", 0, 0)]
ACT_PAIRS = [("pass pass", 0, 1), ("move", 0, 1), ("move pass", 0, 1), ("vote", 0, 1), ("vote 0 0", 0, 2),
             ("pass\npass", 1, 0)]
ROW_PAIRS = [("pass\n", 1, 0), ("none\npass", 1, 0), ("pass\nvote 1 none", 1, 2), ("pass\nput 0", 1, 0)]
STAND_PAIRS = [("over", 0, 1), ("floor none table bare pile none open turn 0 passes 0 left", 0, 12),
               ("floor none table pile none", 0, 3), ("over 1 0", 0, 2)]
SHORT_PAIRS = [("pass 1", 0, 1), ("pass\npass", 1, 0), ("vote none", 0, 0), ("yes\nno no", 1, 1)]
HOUSE_PAIRS = [("members 1 2", 1, 0), (house_text(HOUSE) + "\n", 7, 0), ("members 1\nclauses", 1, 1)]
SHEET_PAIRS = [(SHEET + "\nrow a", 18, 0), (SHEET + "\n", 18, 0), (house_text(HOUSE), 7, 0), (SHEET + " 0", 17, 3)]


def refused(kind, field, pairs):
    """What has the form of words and is refused by itself."""
    return [(text, kind, {field: value}) for text, value in pairs]


def wrong_sheets():
    """What are no sheets."""
    told = no_words(SHEET_PAIRS)
    told += refused(BadHouse, "place", [(SHEET.replace("clauses 2", "clauses 4"), "clauses")])
    told += refused(BadText, "number", [(SHEET.replace("begin 0", "begin 0 2"), 1)])
    told += refused(BadMember, "value", [(SHEET.replace("turn 1", "turn 5"), 5)])
    told += refused(BadRow, "place", [(SHEET.replace("move amend 1", "move amend 2"), 1)])
    told += refused(BadLot, "number", [(SHEET.replace("lot b 0 2", "lot b 0 3"), 1)])
    return told + refused(BadGoal, "number", [(SHEET.replace("none or 1", "1 or none"), 1)])


WRONG = {
    "house text": lambda: no_words(HOUSE_PAIRS) + refused(BadHouse, "place", [
        (house_text(HOUSE).replace("members 3", "members 100"), "weights"),
        (house_text(HOUSE).replace("limit 4", "limit 10"), "limit")]),
    "motion text": lambda: no_words(MOTION_PAIRS) + refused(BadMotion, "place", [
        ("put none", "change"), ("amend 2", "clause"), ("lay", None)]),
    "act text": lambda: no_words(ACT_PAIRS) + refused(BadAct, "place", [("move put none", None), ("vote 3", None)]),
    "row text": lambda: no_words(ROW_PAIRS) + refused(BadRow, "place", [("pass\nvote 3\nvote 4", 1)]),
    "stand text": lambda: no_words(STAND_PAIRS) + refused(BadStand, "place", [("over 2", "text")]),
    "short text": lambda: no_words(SHORT_PAIRS) + refused(BadRow, "place", [("yes", 0), ("pass 2\nno\nno", 2),
                                                                           ("pass 4", 0)]),
    "sheet text": wrong_sheets,
}

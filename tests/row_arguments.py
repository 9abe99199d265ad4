"""For test_arguments: the functions of stands, acts, rows, renamings, webs and ways, with right and wrong arguments."""

from floorpowers.errors import BadAct, BadMotion, BadNumber, BadPaper, BadRow, BadStand
from floorpowers.ways import narrow_paper, text_paper
from floorpowers.webs import row_to, web_paper
from helpers import strange_values
from sittings import HALF

BOOK = (("put", 1, HALF), ("amend", 3, (2, 3, False)), ("close", 5, (1, 1, False)))
HOUSE = ((3, 2, 1), 2, BOOK, (1, 2, 0), 4)
STAND = ("floor", (0,), (), (("put", (0, 1)), ("amend", 1)), False, 2, 1, 1)
GOAL = ("floor", (0,), (), (("put", (0, 1)), ("amend", 1)), False, 1, 3, 1)
OVER = ("over", (0,))
ROW = (("pass",), ("move", ("close",)), ("pass",), ("pass",), ("pass",), ("vote", (0, 1, 2)))
RENAMING = ((1, 2, 0), (1, 0), (0,))

HOUSE_ROW = ("house", HOUSE, "house")
STAND_ROW = ("stand", STAND, "stand")
GOAL_ROW = ("goal", GOAL, "stand")
TEXT_ROW = ("text", (0,), "text")
KINDS_ROW = ("kinds", ("amend", "lay"), "kinds")
RENAMING_ROW = ("renaming", RENAMING, "renaming")
FROM_STAND = [HOUSE_ROW, STAND_ROW]
TO_TEXT = FROM_STAND + [TEXT_ROW]
WITH_ROW = FROM_STAND + [("row", ROW, "row")]

FUNCTIONS = {
    "stands": {
        "need_stand": FROM_STAND,
        "is_stand": [HOUSE_ROW, ("value", STAND, None)],
        "beginning": [HOUSE_ROW, ("text", (0, 1), "text"), ("member", 2, "member")],
        "pending": FROM_STAND,
        "is_put": FROM_STAND,
        "is_over": FROM_STAND,
    },
    "acts": {
        "need_act": [HOUSE_ROW, ("act", ("move", ("put", (0, 1))), "act")],
        "acts_at": FROM_STAND,
        "is_in_order": FROM_STAND + [("act", ("vote", (0, 1)), "act")],
        "done": FROM_STAND + [("act", ("move", ("close",)), "act in order")],
        "outcomes": FROM_STAND,
    },
    "rows": {
        "need_row": WITH_ROW,
        "way_of": WITH_ROW,
        "last_stand": WITH_ROW,
        "text_after": WITH_ROW,
        "bare_form": WITH_ROW,
        "row_of_bare": FROM_STAND + [("bare", (("close",), True, True, False), "bare")],
        "bound_of": FROM_STAND,
        "is_quiet": FROM_STAND,
    },
    "renamings": {
        "need_renaming": [HOUSE_ROW, RENAMING_ROW],
        "house_renamed": [HOUSE_ROW, RENAMING_ROW],
        "lot_renamed": [HOUSE_ROW, ("lot", (0, 2), "lot"), RENAMING_ROW],
        "goal_renamed": [HOUSE_ROW, ("goal", ((), (1,)), "goal"), RENAMING_ROW],
        "stand_renamed": [HOUSE_ROW, STAND_ROW, RENAMING_ROW],
        "act_renamed": [HOUSE_ROW, ("act", ("move", ("amend", 0)), "act"), RENAMING_ROW],
        "row_renamed": [HOUSE_ROW, ("row", (("vote", (0,)), ("move", ("amend", 1)), ("pass",)), "acts"), RENAMING_ROW],
        "both_renamings": [HOUSE_ROW, ("one", RENAMING, "renaming"), ("other", ((2, 1, 0), (0, 1), (0, 1)),
                                                                      "renaming")],
        "back_renaming": [HOUSE_ROW, RENAMING_ROW],
        "likenesses": [HOUSE_ROW],
    },
    "webs": {
        "steps_of": FROM_STAND,
        "web_of": FROM_STAND,
        "row_to": FROM_STAND + [GOAL_ROW],
        "rows_compared": WITH_ROW + [("other", ROW[:5] + (("vote", (0, 1)),), "row")],
        "web_paper": FROM_STAND + [GOAL_ROW],
        "check_web": FROM_STAND + [GOAL_ROW, ("paper", ("row", row_to(HOUSE, STAND, GOAL)), "web paper")],
    },
    "ways": {
        "texts_from": FROM_STAND + [KINDS_ROW],
        "row_to_text": TO_TEXT + [KINDS_ROW],
        "text_paper": TO_TEXT + [KINDS_ROW],
        "check_text": TO_TEXT + [KINDS_ROW, ("paper", text_paper(HOUSE, STAND, (0,), ("amend", "lay")), "text paper")],
        "keeping_acts": TO_TEXT,
        "narrows": TO_TEXT,
        "is_narrow": TO_TEXT + [GOAL_ROW],
        "narrow_paper": TO_TEXT + [GOAL_ROW],
        "check_narrow": TO_TEXT + [GOAL_ROW, ("paper", narrow_paper(HOUSE, STAND, (0,), GOAL), "narrow paper")],
    },
}


def no_tuples():
    """Values that are no tuple."""
    return strange_values() + [0, 1, list(ROW), list(STAND)]


def wrong_stands():
    """Some of what are no stands: test_stands goes through all places."""
    pairs = [((), None), (STAND[:7], None), (STAND + (0,), None), (("over",), None), (("over", (2,)), "text")]
    places = ["text", "table", "pile", "closed", "turn", "passes", "left"]
    pairs += [(STAND[:at] + ("x",) + STAND[at + 1:], place) for at, place in enumerate(places, start=1)]
    pairs += [(STAND[:at] + (True,) + STAND[at + 1:], place) for at, place in enumerate(places, start=1) if at != 4]
    pairs += [(("over", value), "text") for value in strange_values()] + [(value, None) for value in no_tuples()]
    return [(value, BadStand, {"place": place}) for value, place in pairs]


def no_acts():
    """What are no acts of the house."""
    acts = [(), ("Pass",), ("pass", 0), ("move",), ("move", ("put", ())), ("move", ("lay",)), ("move", ("amend", 2)),
            ("move", ("amend", False)), ("vote",), ("vote", (3,)), ("vote", (1, 0)), ("vote", (True,)), ("put", (0,))]
    return acts + no_tuples() + [(value, ()) for value in strange_values()] + [("vote",
                                                                                value) for value in strange_values()]


def wrong_acts():
    """What are no acts, whether in order or not."""
    return [(value, BadAct, {"place": None}) for value in no_acts()]


def wrong_acts_in_order():
    """What are no acts in order at the stand."""
    acts = [("vote", ()), ("move", ("put", (0,))), ("move", ("amend", 0))]
    return wrong_acts() + [(act, BadAct, {"place": "order"}) for act in acts]


def wrong_rows(in_order):
    """What are no tuples of acts, or no rows in order from the stand."""
    pairs = [(value, None) for value in no_tuples()] + [((value,), 0) for value in no_acts()]
    pairs += [((("pass",), value, value), 1) for value in no_acts()]
    if in_order:
        pairs += [((("vote", ()),), 0), (ROW[:2] + (("vote", ()), None), 2), (ROW + (("vote", ()),), 6),
                  (ROW[:5] * 2, 5)]
    return [(value, BadRow, {"place": place}) for value, place in pairs]


def wrong_bares():
    """What are no bare forms of rows in order from the stand."""
    pairs = [((value,), 0) for value in [("put", (0,)), ("amend", 0), ("lay",), ("put", ()), 0, 1, (), ("pass",), None]]
    pairs += [((True, False, False), 2), ((False, ("close",), True, ("amend", 0), ("amend", 0)), 3),
              ((False, False, 1), 2)]
    pairs += [((("close",), value), 1) for value in strange_values() if value is not True and value is not False]
    return [(value, BadRow, {"place": place}) for value, place in pairs + [(value, None) for value in no_tuples()]]


def wrong_renamings():
    """What are no renamings of the house."""
    values = [(), RENAMING[:2], RENAMING + ((),), (RENAMING[1], RENAMING[0], ()), ((0, 1), (0, 1), ()),
              ((0, 0, 1), (0, 1), ()), ((0, 1, 2), (0, 0), ()), ((0, 1, 2), (0, 1), (2,)), ((0, 1, 2), (0, True), ()),
              ((0, 1, 3), (0, 1), ()), ((0, 1, 2), (1, 2), ()), ((0, 1, 2), (0, 1), (0, 0)), ([0, 1, 2], (0, 1), ())]
    values += no_tuples() + [((0, 1, 2), (0, 1), value) for value in strange_values()]
    return [(value, BadNumber, {"value": value}) for value in values]


def wrong_kinds():
    """What are no kinds."""
    pairs = [(("amend", "put"), 1), (("put", "put"), 1), (("Put",), 0), (("lay", "pass"), 1), ((("put",),), 0),
             ((0,), 0)]
    pairs += [((value,), 0) for value in strange_values()] + [(value, None) for value in no_tuples()]
    return [(value, BadMotion, {"place": place}) for value, place in pairs]


def wrong_papers(words, more):
    """What is no paper of one of two words, and what more fails with its word."""
    form = [(), (words[0],), (words[0], (), ()), [words[0], ()], ("x", ()), ((), words[0])] + no_tuples()
    form += [(word, value) for word in words for value in no_tuples()] + [(value, ()) for value in no_tuples()]
    papers = [(value, "form") for value in form] + more
    papers += [((word, (value,)), word) for word in words for value in strange_values()]
    return [(value, BadPaper, {"word": word}) for value, word in papers]


def wrong_web_papers():
    """What shows neither that GOAL is in the web nor that it isn't."""
    row = row_to(HOUSE, STAND, GOAL)
    closed = web_paper(HOUSE, STAND, STAND[:7] + (0,))[1]
    more = [(("row", ()), "row"), (("row", row[:-1]), "row"), (("row", row + (("vote", ()),)), "row"),
            (("closed", ()), "closed"), (("closed", closed), "closed"), (("closed", (STAND,)), "closed")]
    return wrong_papers(("row", "closed"), more)


def wrong_text_papers():
    """What shows neither that the text comes without these kinds nor that it doesn't."""
    row = text_paper(HOUSE, STAND, (0,), ("amend", "lay"))[1]
    more = [(("row", ()), "row"), (("row", row[:-1]), "row"), (("row", row + (("pass",),)), "row"),
            (("closed", ()), "closed"), (("closed", (OVER,)), "closed"), (("closed", (STAND,)), "closed")]
    return wrong_papers(("row", "closed"), more)


def wrong_narrow_papers():
    """What shows neither that GOAL is a narrow to the text nor that it isn't."""
    more = [(("round", ()), "round"), (("round", row_to(HOUSE, STAND, GOAL)), "round"), (("shut", ()), "shut"),
            (("shut", (STAND,)), "shut"), (("shut", (STAND, GOAL)), "shut"), (("shut", (OVER,)), "shut")]
    return wrong_papers(("round", "shut"), more)


WRONG = {
    "stand": wrong_stands,
    "act": wrong_acts,
    "act in order": wrong_acts_in_order,
    "row": lambda: wrong_rows(True),
    "acts": lambda: wrong_rows(False),
    "bare": wrong_bares,
    "renaming": wrong_renamings,
    "kinds": wrong_kinds,
    "web paper": wrong_web_papers,
    "text paper": wrong_text_papers,
    "narrow paper": wrong_narrow_papers,
}

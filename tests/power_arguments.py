"""For test_arguments: the functions of plans, of tables of powers, and of turns and waits, with their arguments."""

from floorpowers.equals import lot_paper
from floorpowers.errors import BadFamily, BadMember, BadName, BadNumber, BadPaper, BadStand
from floorpowers.plans import power_paper
from floorpowers.waits import wait_paper
from beside_arguments import GOAL_ROW, LOT_ROW, POWER
from helpers import strange_values
from row_arguments import FROM_STAND, GOAL, HOUSE, HOUSE_ROW, ROW, STAND, no_tuples, wrong_papers, wrong_stands

WISHES_ROW = ("wishes", (((0,), (1,)), (), ((0,), (1,))), "wishes")
MEMBER_ROW = ("member", 1, "member outside")
ANY_MEMBER_ROW = ("member", 1, "member")
KIND_ROW = ("kind", "amend", "kind or none")
WAIT = FROM_STAND + [LOT_ROW, MEMBER_ROW, KIND_ROW]
BOTH = FROM_STAND + [("other_house", HOUSE, "house"), ("other_stand", GOAL, "stand")]
LOT = (0, 2)
TEXTS = ((), (1,))

FUNCTIONS = {
    "plans": {
        "plan_of": POWER,
        "choice_at": POWER + [("other", GOAL, "stand of the web")],
        "power_paper": POWER,
        "check_power": POWER + [("paper", power_paper(HOUSE, STAND, LOT, TEXTS), "power paper")],
        "is_led": POWER + [("row", ROW, "row")],
        "led_row": POWER + [("draws", (3, 0, 10 ** 30, 7, 1, 2), "draws")],
    },
    "goals": {
        "all_goals": [HOUSE_ROW],
        "least_goals": FROM_STAND + [LOT_ROW],
        "greatest_barred": FROM_STAND + [LOT_ROW],
        "is_over_some": [HOUSE_ROW, WISHES_ROW, GOAL_ROW],
        "least_of": [HOUSE_ROW, WISHES_ROW],
        "crossing": [HOUSE_ROW, ("wishes", (((0,), (1,)), ((), (0,))), "wishes")],
    },
    "tables": {
        "powers_table": FROM_STAND,
        "least_lots": FROM_STAND + [GOAL_ROW],
        "swings": FROM_STAND + [GOAL_ROW],
        "idle_members": FROM_STAND,
        "alike_members": FROM_STAND,
        "turned_round": FROM_STAND,
    },
    "equals": {
        "have_equal_powers": BOTH,
        "parting_power": BOTH,
        "is_no_stronger": BOTH + [LOT_ROW],
        "same_lots_carry": [HOUSE_ROW, ("other_house", HOUSE[:4] + (2,), "house")],
        "lot_paper": FROM_STAND + [LOT_ROW],
        "check_lot_paper": FROM_STAND + [LOT_ROW, ("paper", lot_paper(HOUSE, STAND, LOT), "lot paper")],
    },
    "turns": {
        "turn_after": [HOUSE_ROW, ANY_MEMBER_ROW, ("number", 10 ** 30, "number from 0")],
        "turns_from": [HOUSE_ROW, ANY_MEMBER_ROW],
        "turns_to": [HOUSE_ROW, ANY_MEMBER_ROW, ("other", 0, "member")],
        "kinds_open": FROM_STAND,
        "can_move": FROM_STAND + [ANY_MEMBER_ROW, KIND_ROW],
    },
    "waits": {
        "wait_of": WAIT,
        "waits_of": WAIT,
        "worst_wait": FROM_STAND + [ANY_MEMBER_ROW, KIND_ROW],
        "waiting_row": WAIT,
        "wait_paper": WAIT,
        "check_wait": WAIT + [("paper", wait_paper(HOUSE, STAND, LOT, 1, "amend"), "wait paper")],
    },
}


def wrong_wishes():
    """What are no tuples of goals."""
    pairs = [(value, None) for value in no_tuples()] + [((value,), 0) for value in no_tuples()]
    pairs += [(((), ((2,),)), 1), (((), ((0,), ()), None), 1), ((((True,),),), 0), (((0,),), 0)]
    return [(value, BadFamily, {"place": place}) for value, place in pairs]


def wrong_web_stands():
    """What are no stands of the web."""
    more = [STAND[:7] + (4,), ("floor", (), None, (), False, 0, 0, 3)]
    return wrong_stands() + [(stand, BadStand, {"place": "web"}) for stand in more]


def wrong_draws():
    """What are no draws."""
    pairs = [(value, None) for value in no_tuples() + [(0,) * 61]] + [((-1,), 0), ((0, True), 1), ((0, 0, None), 2)]
    pairs += [((5, value), 1) for value in strange_values()[:-1]]
    return [(value, BadNumber, {"value": number}) for value, number in pairs]


def wrong_members_outside():
    """What are no members outside of the lot: none at all, or some of it."""
    return [(value, BadMember, {"value": value}) for value in strange_values() + [3, -1, (0,), (), 0, 2]]


def wrong_kinds_or_none():
    """What are neither kinds of the book nor None."""
    return [(value, BadName, {"name": value}) for value in strange_values()[1:] + ["lay", "take", "pass", 0, ("put",)]]


def wrong_power_papers():
    """What shows neither that the lot can force the goal nor that the others can bar it."""
    more = [(("force", ()), "force"), (("bar", ()), "bar"), (("bar", (STAND,)), "bar"),
            (("force", ((STAND, 5, None),)), "force"), (("force", (STAND,)), "force")]
    return wrong_papers(("force", "bar"), more)


def wrong_lot_papers():
    """What shows not all that the lot can force and can't."""
    forced, barred = lot_paper(HOUSE, STAND, LOT)
    form = no_tuples() + [(), ((),), ((), (), ()), [(), ()], ((), (None,)), (((None, None),), ()), (forced, None)]
    papers = [(value, "form") for value in form + [(value, ()) for value in no_tuples()]]
    papers += [(((((), value),), barred), "force") for value in strange_values()]
    papers += [((forced, (((), value),)), "bar") for value in strange_values()]
    papers += [((forced, ()), "whole"), (((), barred), "whole"), (((), ()), "whole")]
    return [(value, BadPaper, {"word": word}) for value, word in papers]


def wrong_wait_papers():
    """What shows neither that the member comes to the kind nor that the lot keeps it from it."""
    form = [(), ("comes",), ("kept", (), ()), ["kept", ()], ("x", ()), ((), "kept"), ("comes", (STAND,))] + no_tuples()
    form += [(word, value) for word in ("comes", "kept") for value in no_tuples()]
    form += [(word, (value,)) for word in ("comes", "kept") for value in no_tuples()]
    form += [("comes", ((STAND, value),)) for value in strange_values()] + [("kept", (STAND, STAND))]
    papers = [(value, "form") for value in form]
    papers += [(("comes", ()), "comes"), (("kept", ()), "kept"), (("comes", ((STAND, 0),)), "comes"),
               (("kept", (STAND,)), "kept")]
    return [(value, BadPaper, {"word": word}) for value, word in papers]


WRONG = {
    "wishes": wrong_wishes,
    "stand of the web": wrong_web_stands,
    "draws": wrong_draws,
    "number from 0": lambda: [(value, BadNumber, {"value": value}) for value in strange_values()[:-1] + [-1, (), "1"]],
    "member outside": wrong_members_outside,
    "kind or none": wrong_kinds_or_none,
    "power paper": wrong_power_papers,
    "lot paper": wrong_lot_papers,
    "wait paper": wrong_wait_papers,
}

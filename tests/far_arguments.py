"""For test_arguments: the functions of kept members and of journeys, with right and wrong arguments."""

from floorpowers.errors import BadFamily, BadHouse, BadLot, BadMember, BadNumber, BadPaper, BadShare
from floorpowers.kept import times_paper
from floorpowers.vetoes import ever_paper, kept_paper
from beside_arguments import LOT_ROW
from helpers import strange_values
from journeys import wrong_both_lots, wrong_journeys
from power_arguments import ANY_MEMBER_ROW, KIND_ROW, MEMBER_ROW
from row_arguments import FROM_STAND, HOUSE, STAND, no_tuples
from sittings import HALF

WAIT = FROM_STAND + [LOT_ROW, MEMBER_ROW, KIND_ROW]
TIMES = WAIT + [("many", 2, "times")]
BOOK = (("put", 1, HALF), ("amend", 3, (2, 3, False)))
NEAR = ((3, 2, 1), 2, BOOK, (1, 2, 0), 1)
FAR = ((2, 1, 1), 2, BOOK[:1], (2, 0, 1), 1)
JOURNEY = (NEAR, FAR, 1, 2, HALF)
LOTS = ((0, 1), (0, 2))
JOURNEY_ROW = ("journey", JOURNEY, "journey")
BOTH_LOTS_ROW = ("lots", LOTS, "both lots")
GOAL_ROW = ("goal", ((), (1,)), "goal")
TEXT_ROW = ("text", (1,), "text")
ROUNDS_ROW = ("many", 10 ** 30, "rounds")
MAP_ROW = ("numbers", (1, 2, 3, 1), "map")
WITH_GOAL = [JOURNEY_ROW, BOTH_LOTS_ROW, GOAL_ROW]
WITH_TEXT = WITH_GOAL + [TEXT_ROW]

FUNCTIONS = {
    "kept": {
        "does_keep": WAIT,
        "times_of": WAIT,
        "times_paper": TIMES,
        "check_times": TIMES + [("paper", times_paper(HOUSE, STAND, (0, 2), 1, "amend", 2), "times paper")],
        "keepers": FROM_STAND + [ANY_MEMBER_ROW, KIND_ROW],
        "wanted": FROM_STAND + [ANY_MEMBER_ROW, KIND_ROW],
        "kept_table": FROM_STAND,
    },
    "rounds": {
        "need_journey": [JOURNEY_ROW],
        "need_both_lots": [JOURNEY_ROW, BOTH_LOTS_ROW],
        "round_goal": WITH_GOAL,
        "rounds_goal": WITH_GOAL + [ROUNDS_ROW],
        "is_forced": WITH_GOAL + [ROUNDS_ROW, TEXT_ROW],
        "goal_course": WITH_GOAL,
    },
    "familieson": {
        "goal_number": [("clauses", 2, "few clauses"), GOAL_ROW],
        "goal_at": [("clauses", 2, "few clauses"), ("number", 9, "goal number")],
        "need_map": [MAP_ROW],
        "map_done": [MAP_ROW, ROUNDS_ROW],
        "map_course": [MAP_ROW],
        "is_rising": [MAP_ROW],
        "round_map": [JOURNEY_ROW, BOTH_LOTS_ROW],
        "family_goals": [JOURNEY_ROW, BOTH_LOTS_ROW, TEXT_ROW, ROUNDS_ROW],
        "fewest_lots": [JOURNEY_ROW, GOAL_ROW, TEXT_ROW, ROUNDS_ROW],
    },
    "vetoes": {
        "passing": [JOURNEY_ROW, BOTH_LOTS_ROW],
        "overrulers": [JOURNEY_ROW],
        "holders": [JOURNEY_ROW, TEXT_ROW],
        "vetoers": [JOURNEY_ROW, TEXT_ROW, ("lot", (0, 2), "near lot")],
        "ever_ranks": WITH_GOAL,
        "kept_goal": WITH_GOAL,
        "ever_paper": WITH_TEXT,
        "kept_paper": WITH_TEXT,
        "check_ever": WITH_TEXT + [("paper", ever_paper(JOURNEY, LOTS, ((), (1,)), (1,)), "ever paper")],
        "check_kept": WITH_TEXT + [("paper", kept_paper(JOURNEY, LOTS, ((), (1,)), (1,)), "kept paper")],
    },
}


def numbers_refused(values):
    """What are no numbers: some values and those of all kinds."""
    return [(value, BadNumber, {"value": value}) for value in values]


def worded_papers(form, papers):
    """What is refused of a paper, with its words."""
    return [(value, BadPaper, {"word": "form"}) for value in form] + [(value, BadPaper, {"word": value[0]})
                                                                      for value in papers]


def wrong_times_papers():
    """What shows neither that the member comes twice to the kind, nor that it doesn't."""
    form = [(), ("often",), ("seldom", (), ()), ["often", ()], ("x", ()), ((), "often"), ("often", (STAND,))]
    form += no_tuples() + [(word, value) for word in ("often", "seldom") for value in no_tuples()]
    form += [(word, (value,)) for word in ("often", "seldom") for value in no_tuples()]
    form += [("often", ((STAND, value, 0),)) for value in strange_values()]
    form += [("often", ((STAND, 2, value),)) for value in strange_values()]
    form += [("seldom", ((STAND, value),)) for value in strange_values()]
    papers = [("often", ()), ("seldom", ()), ("often", ((STAND, 2, 0),)), ("seldom", ((STAND, 0),))]
    return worded_papers(form, papers)


def wrong_journey_rows():
    """What are no journeys."""
    kinds = {"place": (BadHouse, "place"), "member": (BadMember, "value"), "share": (BadShare, "value")}
    return [(wrong, kinds[sort][0], {kinds[sort][1]: value}) for wrong, sort, value in wrong_journeys(JOURNEY)]


def wrong_near_lots():
    """What are no lots of the first house."""
    pairs = [(value, None) for value in no_tuples()] + [((3,), 0), ((0, 0), 1), ((0, True), 1), ((2, 1), 1)]
    return [(value, BadLot, {"number": (0, number)}) for value, number in pairs]


def wrong_maps():
    """What are no maps."""
    pairs = [(value, None) for value in no_tuples() + [(), (0,), (0, 0, 0), (0,) * 17, [0, 0]]]
    pairs += [((0, 2), 1), ((-1, 0), 0), ((0, 1, 2, 4), 3), ((True, 0), 0)]
    pairs += [((0, 1, value, 0), 2) for value in strange_values()]
    return [(value, BadFamily, {"place": place}) for value, place in pairs]


def wrong_word_papers(words, others):
    """What is no paper of one of two words, on the goal and the text."""
    form = [(), (words[0],), (words[0], (), ()), [words[0], ()], (others[0], ()), ((), words[0])] + no_tuples()
    form += [(value, ()) for value in no_tuples()]
    papers = [(word, value) for word in words for value in no_tuples() + [(), ((0,),), (None, 0), (0, 0, 0, True)]]
    return worded_papers(form, papers)


WRONG = {
    "times": lambda: numbers_refused(strange_values()[1:] + [0, 21, -1, (), "1"]),
    "times paper": wrong_times_papers,
    "journey": wrong_journey_rows,
    "both lots": lambda: [(value, BadLot, {"number": number}) for value, number in wrong_both_lots(JOURNEY)],
    "rounds": lambda: numbers_refused(strange_values() + [-1, 10 ** 30 + 1, (), "1"]),
    "few clauses": lambda: numbers_refused(strange_values() + [0, 4, -1, (), "1"]),
    "goal number": lambda: numbers_refused(strange_values() + [-1, 16, (), "1"]),
    "map": wrong_maps,
    "near lot": wrong_near_lots,
    "ever paper": lambda: wrong_word_papers(("ever", "never"), ("kept", "lost")),
    "kept paper": lambda: wrong_word_papers(("kept", "lost"), ("ever", "never")),
}

"""For test_arguments: the functions of counts, of houses beside one another and of powers, with their arguments."""

from floorpowers.counted import length_paper, rows_counted
from floorpowers.errors import BadNumber, BadPaper, BadStand
from floorpowers.parted import alike_paper, cover_paper
from helpers import strange_values
from row_arguments import FROM_STAND, GOAL, HOUSE, HOUSE_ROW, STAND, STAND_ROW, WITH_ROW, no_tuples, wrong_papers

MANY_ROW = ("many", 4, "up to sixty")
MOST_ROW = ("most", 7, "most")
ROWS = rows_counted(HOUSE, STAND, 4)
PLACES = FROM_STAND + [("far_house", HOUSE, "house"), ("far_stand", GOAL, "stand")]
KIND_ROW = ("kind", "amend", "kind")
LOT_ROW = ("lot", (0, 2), "lot")
GOAL_ROW = ("goal", ((), (1,)), "goal")
POWER = FROM_STAND + [LOT_ROW, GOAL_ROW]
QUESTION = ("floor", (0,), (), (("put", (0, 1)), ("amend", 1)), False, 2, 3, 1)

FUNCTIONS = {
    "counted": {
        "rows_counted": FROM_STAND + [MANY_ROW],
        "tally": FROM_STAND + [MANY_ROW],
        "row_numbered": FROM_STAND + [MANY_ROW, ("number", ROWS - 1, "number of rows")],
        "number_of": WITH_ROW,
        "is_endless": FROM_STAND,
        "ring_from": FROM_STAND,
        "sittings_counted": FROM_STAND,
        "web_length": FROM_STAND,
        "longest_row": FROM_STAND,
        "length_paper": FROM_STAND + [MOST_ROW],
        "check_length": FROM_STAND + [MOST_ROW, ("paper", length_paper(HOUSE, STAND, 7), "length paper")],
    },
    "beside": {
        "seen_at": FROM_STAND,
        "are_alike_places": PLACES,
        "lets_no_more": PLACES,
        "look_count": FROM_STAND,
    },
    "parted": {
        "parting_row": PLACES,
        "alike_paper": PLACES,
        "check_alike_places": PLACES + [("paper", alike_paper(HOUSE, STAND, HOUSE, GOAL), "alike paper")],
        "row_beyond": PLACES,
        "cover_paper": PLACES,
        "check_cover": PLACES + [("paper", cover_paper(HOUSE, STAND, HOUSE, GOAL), "cover paper")],
    },
    "idle": {
        "kinds_moved": FROM_STAND,
        "asked_ranks": FROM_STAND,
        "least_ranks": FROM_STAND,
        "shares_for": [HOUSE_ROW, KIND_ROW],
        "does_matter": FROM_STAND + [KIND_ROW],
        "least_book": FROM_STAND,
    },
    "votes": {
        "sides_of": [HOUSE_ROW, KIND_ROW, LOT_ROW],
        "vote_stands": [HOUSE_ROW, ("stand", QUESTION, "question")],
    },
    "powers": {
        "force_ranks": POWER,
        "force_rank": POWER,
        "can_force": POWER,
        "can_bar": POWER,
        "forced_texts": [("house", HOUSE[:4] + (2,), "house"), ("member", 2, "member"), LOT_ROW, GOAL_ROW],
    },
}


def wrong_numbers(values):
    """What are no numbers, some that aren't and those of all kinds."""
    return [(value, BadNumber, {"value": value}) for value in values + strange_values() + [(), (0,), "1"]]


def wrong_questions():
    """Stands in which no question is put."""
    return [(stand, BadStand, {"place": "put"}) for stand in (STAND, ("over", ()), STAND[:3] + ((), False, 0, 2, 1))]


def wrong_pair_papers(words):
    """What shows neither that STAND and GOAL are alike, or that the first one lets no more, nor that it isn't so."""
    form = [(), (words[0],), (words[0], (), ()), [words[0], ()], ("x", ()), ((), words[0])] + no_tuples()
    papers = [(value, "form") for value in form + [(value, ()) for value in no_tuples()]]
    papers += [((word, value), word) for word in words for value in strange_values()]
    papers += [((word, (value,)), word) for word in words for value in strange_values()]
    papers += [((words[0], ((STAND, GOAL),)), words[0]), ((words[0], ()), words[0]),
               ((words[1], (("vote", ()), None)), words[1])]
    return [(paper, BadPaper, {"word": word}) for paper, word in papers]


def wrong_lengths():
    """What shows neither that seven acts are as many as a row can have, nor that they aren't."""
    more = [(("long", ()), "long"), (("long", (("pass",),) * 8), "long"), (("heights", ()), "heights"),
            (("heights", (7,) * 9), "heights")]
    return wrong_papers(("long", "heights"), more)


WRONG = {
    "up to sixty": lambda: wrong_numbers([-1, 61]),
    "most": lambda: wrong_numbers([-1, 201]),
    "number of rows": lambda: wrong_numbers([-1, ROWS]),
    "length paper": wrong_lengths,
    "alike paper": lambda: wrong_pair_papers(("alike", "parted")),
    "cover paper": lambda: wrong_pair_papers(("cover", "beyond")),
    "question": wrong_questions,
}

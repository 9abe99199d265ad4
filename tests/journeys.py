"""Small journeys for tests, of all sorts, and wrong ones."""

from helpers import strange_values
from sittings import EDGE_HOUSE, FULL, GREAT, HALF, LEAST_HALF, NOBODY, SMALL, THIRD, book

ONE = SMALL["one member"]
TWO = SMALL["two members"]
FREE = SMALL["no limit"]
THREE = ((2, 1, 1), 1, FULL, (1, 2, 0), 1)
PUTS = ((3, 2, 1), 1, book(put=(1, HALF)), (1, 2, 0), 1)
WIDE = ((1, 1), 2, book(put=(0, HALF), amend=(2, LEAST_HALF)), (1, 0), 1)
WIDE_PUTS = ((2, 1), 2, book(put=(0, LEAST_HALF)), (1, 0), 2)
WIDE_THREE = ((1, 1, 1), 2, book(put=(0, HALF)), (1, 2, 0), 1)
DEEP = ((1, 2), 3, book(put=(0, HALF)), (1, 0), 1)
DEEP_THREE = ((2, 1, 1), 3, book(put=(0, THIRD)), (1, 2, 0), 1)

JOURNEYS = [
    (PUTS, TWO, 0, 1, None),
    (PUTS, TWO, 2, 0, HALF),
    (THREE, PUTS, 1, 2, THIRD),
    (TWO, THREE, 0, 0, LEAST_HALF),
    (ONE, FREE, 0, 0, None),
    (FREE, ONE, 0, 0, HALF),
    (PUTS, FREE, 1, 0, NOBODY),
    (SMALL["two members"], SMALL["no limit, lay and take"], 1, 1, (1, 2, False)),
    (SMALL["each can bring it up"], TWO, 0, 1, (1, 9, True)),
    (SMALL["nobody carries"], SMALL["each can bring it up"], 1, 0, (1, 2, False)),
    (SMALL["nothing may be moved"], PUTS, 1, 0, (2, 3, False)),
    (WIDE, WIDE_PUTS, 0, 1, None),
    (WIDE_PUTS, WIDE_THREE, 1, 2, HALF),
    (WIDE_THREE, WIDE, 0, 0, THIRD),
    (WIDE, WIDE_THREE, 1, 1, LEAST_HALF),
]
DEEP_JOURNEYS = [(DEEP, DEEP_THREE, 0, 1, None), (DEEP_THREE, DEEP, 2, 1, HALF)]

# Webs of HOUSE, of FAR_HOUSE, of both too great.
GREAT_JOURNEYS = [(GREAT, DEEP, 0, 0, None), (DEEP, GREAT, 1, 2, HALF), (GREAT, EDGE_HOUSE, 2, 2, None)]


def wrong_journeys(journey):
    """What are no journeys, with the error's word and its field."""
    house, far_house, member, far_member, share = journey
    whole = [(), journey[:4], journey + (None,), list(journey)] + strange_values() + [0, 1]
    told = [(value, "place", None) for value in whole]
    for number in (0, 1):
        for value in strange_values() + [(), house[:4], list(house)]:
            told.append((journey[:number] + (value,) + journey[number + 1:], "place", (number, None)))
        for at, place in enumerate(("weights", "clauses", "book", "next", "limit")):
            wrong = journey[number][:at] + ("x",) + journey[number][at + 1:]
            told.append((journey[:number] + (wrong,) + journey[number + 1:], "place", (number, place)))
    other = (far_house[0], 3 if house[1] == 2 else 2) + far_house[2:]
    told.append(((house, other, "x", "x", "x"), "place", "clauses"))
    for value in strange_values() + [len(house[0]), -1, (0,)]:
        told.append(((house, far_house, value, "x", "x"), "member", value))
        told.append(((house, far_house, value, far_member, share), "member", value))
    for value in strange_values() + [len(far_house[0]), -1, (0,)]:
        told.append(((house, far_house, member, value, "x"), "member", value))
    for value in strange_values()[1:] + [(), (1, 2), (2, 1, True), (0, 1, True), (1, 2, 1), 0]:
        told.append(((house, far_house, member, far_member, value), "share", value))
    return told


def wrong_both_lots(journey):
    """What are no lots of a journey, with the field."""
    many, far_many = len(journey[0][0]), len(journey[1][0])
    told = [(value, None) for value in strange_values() + [(), ((),), ((), (), ()), [(), ()], 0, "ab"]]
    told += [((value, ()), (0, None)) for value in strange_values() + [[]]]
    told += [((value, None), (0, None)) for value in strange_values()]
    told += [(((), value), (1, None)) for value in strange_values() + [[]]]
    told += [(((0, many), ()), (0, 1)), (((many,), None), (0, 0)), (((), (0, 0)), (1, 1)),
             (((0,), (far_many,)), (1, 0)),
             (((True,), ()), (0, 0)), (((), (0, None)), (1, 1)), (((-1,), ()), (0, 0))]
    return told

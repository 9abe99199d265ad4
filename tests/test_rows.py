"""floorpowers/rows.py: rows in order, their ways, bare forms, the least rows with them, and their bound."""

import unittest
from itertools import product

from floorpowers.errors import BadHouse, BadRow, BadStand
from floorpowers.rows import (bare_form, bound_of, is_quiet, last_stand, need_row, row_of_bare, text_after, way_of)
from helpers import check_refused, strange_values
from sittings import SMALL, acts, after, all_acts, all_rows, drawn_row, first_stand, graph, is_carried, may, motions
from test_acts import BARE, put_to_vote
from test_stands import HOUSE, STAND

FUNCTIONS = (need_row, way_of, last_stand, text_after, bare_form)
ROW = (("move", ("put", (1,))), ("pass",), ("move", ("amend", 0)), ("pass",), ("pass",), ("pass",), ("vote", (0,)),
       ("pass",), ("pass",), ("pass",), ("vote", (2,)), ("pass",), ("pass",), ("pass",))
BARE_ROW = (("put", (1,)), ("amend", 0), True, False)
SHORT_HOUSES = ("one member", "two members", "no limit", "no limit, lay and take", "nobody carries", "end below",
                "each can bring it up", "equal ranks")


def some_stands(house, count):
    """Some of the stands that can be reached, the first one and over ones among them."""
    stands = sorted(graph(house, first_stand(house)), key=repr)
    over = [stand for stand in stands if stand[0] == "over"]
    return [first_stand(house)] + stands[::max(1, len(stands) // count)] + over


def bare_of(house, row, way):
    """The bare form of a row."""
    bare = []
    for act, stand in zip(row, way):
        if act[0] != "pass":
            bare.append(act[1] if act[0] == "move" else is_carried(house, stand[3][-1], act[1]))
    return tuple(bare)


def least_of_bare(house, stand, bare):
    """The least row with a bare form, by the words; or the number of the first thing that can't come."""
    row, everybody = (), tuple(range(len(house[0])))
    for number, thing in enumerate(bare):
        if thing is True or thing is False:
            lacking = len(house[0]) - stand[6] if stand[0] == "floor" else 0
            new = (("pass",),) * lacking + (("vote", everybody if thing else ()),)
        else:
            new = (("move", thing),)
        for act in new:
            if not may(house, stand, act) or (thing is True and act[0] == "vote"
                                              and not is_carried(house, stand[3][-1], everybody)):
                return number
            row, stand = row + (act,), after(house, stand, act)
    return row


class RowsTest(unittest.TestCase):

    def check_row(self, house, row, way):
        self.assertIs(need_row(house, way[0], row), row)
        self.assertEqual(way_of(house, way[0], row), way)
        self.assertEqual(last_stand(house, way[0], row), way[-1])
        self.assertEqual(text_after(house, way[0], row), way[-1][1])
        self.assertEqual(bare_form(house, way[0], row), bare_of(house, row, way))

    def test_a_row_told_out(self):
        way = way_of(HOUSE, BARE, ROW)
        self.assertEqual(len(way), len(ROW) + 1)
        self.assertEqual(way[:2], (BARE, ("floor", (0,), None, (("put", (1,)),), False, 1, 0, 3)))
        self.assertEqual(way[7], ("floor", (0,), None, (("put", (0, 1)),), False, 0, 0, 2))
        self.assertEqual(last_stand(HOUSE, BARE, ROW), ("over", (0,)))
        self.assertEqual(text_after(HOUSE, BARE, ROW), (0,))
        self.assertEqual(bare_form(HOUSE, BARE, ROW), BARE_ROW)
        carried = ROW[:10] + (("vote", (0, 1)),)
        self.assertEqual(text_after(HOUSE, BARE, carried), (1,))
        self.assertEqual(bare_form(HOUSE, BARE, carried), BARE_ROW[:3] + (True,))

    def test_all_rows_of_few_acts(self):
        for name in SHORT_HOUSES:
            house = SMALL[name]
            arrows = graph(house, first_stand(house))
            for stand in some_stands(house, 6):
                for row, way in all_rows(arrows, stand, 4):
                    self.check_row(house, row, way)

    def test_long_rows(self):
        for house in SMALL.values():
            for state in range(5):
                row = drawn_row(house, first_stand(house), 97 * state, 200)
                way = (first_stand(house),)
                for act in row:
                    way += (after(house, way[-1], act),)
                self.check_row(house, row, way)

    def test_what_is_no_row(self):
        for row in strange_values() + [0, "pass", [("pass",)], [], {}]:
            if not isinstance(row, tuple):
                for function in FUNCTIONS:
                    check_refused(self, BadRow, {"place": None}, function, HOUSE, BARE, row)

    def test_the_first_act_that_is_none(self):
        wrong = [("pass", 0), "pass", ("move", ("put", ())), ("vote", (3,)), ("vote", (True,)), ["pass"]]
        wrong += strange_values()
        for at in range(len(ROW)):
            for act in wrong:
                for row in (ROW[:at] + (act,), ROW[:at] + (act, act), ROW[:at] + (act,) + ROW[at + 1:]):
                    check_refused(self, BadRow, {"place": at}, need_row, HOUSE, BARE, row)
            for function in FUNCTIONS:
                check_refused(self, BadRow, {"place": at}, function, HOUSE, BARE, ROW[:at] + (None,))

    def test_the_first_act_that_is_not_in_order(self):
        way = way_of(HOUSE, BARE, ROW)
        for at, stand in enumerate(way):
            for act in all_acts(HOUSE):
                row = ROW[:at] + (act, ("pass", "wrong"))
                place = at + 1 if act in acts(HOUSE, stand) else at
                for function in FUNCTIONS:
                    check_refused(self, BadRow, {"place": place}, function, HOUSE, BARE, row)

    def test_the_turn_of_refusals(self):
        for function in FUNCTIONS + (row_of_bare,):
            check_refused(self, BadHouse, {"place": "next"}, function, HOUSE[:3] + ((), 9), None, None)
            check_refused(self, BadStand, {"place": "text"}, function, HOUSE, ("over", (9,)), None)
            check_refused(self, BadStand, {"place": None}, function, HOUSE, None, [])


class BareTest(unittest.TestCase):

    def test_told_out(self):
        row = (("move", ("put", (1,))), ("move", ("amend", 0)), ("pass",), ("pass",), ("pass",), ("vote", (0, 1, 2)),
               ("pass",), ("pass",), ("pass",), ("vote", ()))
        self.assertEqual(row_of_bare(HOUSE, BARE, BARE_ROW), row)
        self.assertEqual(row_of_bare(HOUSE, BARE, ()), ())
        self.assertEqual(row_of_bare(HOUSE, ("over", ()), ()), ())
        self.assertEqual(row_of_bare(HOUSE, STAND, (False,)), (("pass",), ("pass",), ("vote", ())))
        self.assertEqual(row_of_bare(HOUSE, put_to_vote((("end",),)), (True,)), (("vote", (0, 1, 2)),))

    def test_what_can_not_come(self):
        for bare, number in (((True,), 0), ((False,), 0), ((("take",),), 0), ((("amend", 0),), 0), ((("put", ()),), 0),
                             ((("put", (0,)), ("put", (1,))), 1), ((("end",), True, False), 2),
                             ((("end",), False, False), 2),
                             ((("put", (0,)), True, ("close",)), 2), ((("put", (0,)), ("close",), ("lay",)), 2),
                             ((("put", (0,)), ("close",), True, ("amend", 0)), 3), ((("put", (0,)), 1), 1),
                             ((("put", (0,)), 0), 1), ((("end",), True, ("end",)), 2), ((("move", ("end",)),), 0)):
            check_refused(self, BadRow, {"place": number}, row_of_bare, HOUSE, BARE, bare)
        stand = put_to_vote((("put", (0,)),))
        check_refused(self, BadRow, {"place": 0}, row_of_bare, HOUSE, stand, (("lay",),))
        check_refused(self, BadRow, {"place": 0}, row_of_bare, HOUSE, ("over", ()), (False,))
        check_refused(self, BadRow, {"place": 0}, row_of_bare, HOUSE, BARE[:7] + (0,), (("end",),))
        house = SMALL["nobody carries"]
        check_refused(self, BadRow, {"place": 1}, row_of_bare, house, first_stand(house), (("end",), True))
        self.assertEqual(len(row_of_bare(house, first_stand(house), (("end",), False))), 4)

    def test_what_is_no_bare_form(self):
        for bare in strange_values() + [[], [True], 0, 1]:
            check_refused(self, BadRow, {"place": None}, row_of_bare, HOUSE, BARE, bare)
        for thing in strange_values() + [0, 1, (), (True,), ["end"], ("vote", ()), ("pass",)]:
            check_refused(self, BadRow, {"place": 0}, row_of_bare, HOUSE, BARE, (thing,))
            if thing is not True and thing is not False:
                check_refused(self, BadRow, {"place": 1}, row_of_bare, HOUSE, BARE, (("end",), thing, None))

    def test_all_bare_forms_of_few_things(self):
        for name, house in SMALL.items():
            things = [True, False] + motions(house)
            for stand in some_stands(house, 4):
                for size in range(4 if len(things) < 9 else 3):
                    for bare in product(things, repeat=size):
                        row = least_of_bare(house, stand, bare)
                        if isinstance(row, int):
                            check_refused(self, BadRow, {"place": row}, row_of_bare, house, stand, bare)
                        else:
                            self.assertEqual(row_of_bare(house, stand, bare), row, (name, stand, bare))
                            self.assertEqual(bare_form(house, stand, row), bare)

    def test_among_all_rows_with_a_bare_form(self):
        for name in ("one member", "two members", "no limit", "each can bring it up"):
            house = SMALL[name]
            arrows = graph(house, first_stand(house))
            for stand in some_stands(house, 3):
                fewest, ends = {}, {}
                for row, way in all_rows(arrows, stand, 5):
                    bare = bare_form(house, stand, row)
                    fewest[bare] = min(fewest.get(bare, len(row)), len(row))
                    if row and row[-1] != ("pass",):
                        ends.setdefault(bare, set()).add(way[-1][:5] + way[-1][6:])
                for bare, count in fewest.items():
                    self.assertEqual(len(row_of_bare(house, stand, bare)), count)
                self.assertTrue(all(len(stands) == 1 for stands in ends.values()))


class BoundTest(unittest.TestCase):

    def test_told_out(self):
        self.assertEqual(bound_of(HOUSE, BARE), (3 * 4 + 1) * 4)
        self.assertEqual(bound_of(HOUSE, STAND), (3 * 3 + 2 * 3 + 1) * 4)
        self.assertEqual(bound_of(HOUSE, BARE[:7] + (0,)), 4)
        self.assertEqual(bound_of(HOUSE, put_to_vote((("end",),))[:7] + (0,)), 12)
        self.assertEqual(bound_of(HOUSE, ("over", (0,))), 0)
        no_limit = HOUSE[:4] + (None,)
        self.assertIs(bound_of(no_limit, BARE[:7] + (None,)), None)
        self.assertEqual(bound_of(no_limit, ("over", (0,))), 0)

    def test_no_row_is_longer(self):
        for house in SMALL.values():
            if house[4] is not None:
                arrows = graph(house, first_stand(house))
                longest = {}
                for stand in sorted(arrows, key=lambda each: bound_of(house, each)):
                    self.longest_from(arrows, longest, stand)
                    self.assertLessEqual(longest[stand], bound_of(house, stand))

    def longest_from(self, arrows, longest, stand):
        if stand not in longest:
            behind = set(arrows[stand].values())
            longest[stand] = max((1 + self.longest_from(arrows, longest, each) for each in behind), default=0)
        return longest[stand]

    def test_quiet(self):
        for house in SMALL.values():
            for stand in graph(house, first_stand(house)):
                self.assertIs(is_quiet(house, stand), stand[0] == "floor" and stand[3] == ())

    def test_refusals(self):
        for function in (bound_of, is_quiet):
            check_refused(self, BadHouse, {"place": None}, function, None, None)
            check_refused(self, BadStand, {"place": "pile"}, function, HOUSE, BARE[:3] + (None, None, None, None, None))


if __name__ == "__main__":
    unittest.main()

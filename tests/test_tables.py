"""floorpowers/tables.py: tables, least lots, swings, idle and alike members, and the table turned round."""

import unittest

from floorpowers.errors import BadGoal, BadHouse, BadStand, TooGreat
from floorpowers.tables import alike_members, idle_members, least_lots, powers_table, swings, turned_round
from helpers import check_refused
from models import all_goals, greatest_sets, least_sets, powers
from sittings import (BEYOND_EDGE, EDGE_HOUSE, GREAT, HALF, LEAST_HALF, ON_EDGE, SMALL, THIRD, book, first_stand, lots)
from test_powers import HOUSES
from test_webs import odd_stand, starts

# Houses with members who have no say, or who are alike, where the turns don't tell them apart.
SAYS = [((2, 2, 1), 1, book(put=(1, HALF), end=(3, HALF)), (1, 2, 0), 1),
        ((4, 1, 1), 1, book(put=(1, HALF)), (1, 2, 0), 1),
        ((2, 1, 1, 1), 1, book(put=(1, HALF)), (1, 2, 3, 0), 0),
        ((1, 1, 1), 1, book(put=(1, (2, 3, False)), lay=(2, THIRD)), (0, 0, 0), 1),
        ((3, 1, 1), 1, book(put=(1, (4, 5, False)), end=(2, LEAST_HALF)), (1, 2, 0), 1)]


def stands_of(house):
    """Some stands: the beginning, one that can't come, some that do, one with a vote."""
    left = None if house[4] is None else 0
    vote = ("floor", (), None, (("put", (0,)),), False, 0, len(house[0]), left)
    return [first_stand(house), odd_stand(house), vote] + starts(house)[-3::2]


CASES = [(house, stand) for house in HOUSES[::2] + SAYS for stand in stands_of(house)]


def members(house):
    """All members."""
    return range(len(house[0]))


class TablesTest(unittest.TestCase):

    def test_tables(self):
        for house, stand in CASES:
            told = tuple((lot, least_sets(powers(house, stand, lot))) for lot in lots(len(house[0])))
            self.assertEqual(powers_table(house, stand), told)

    def test_turned_round(self):
        for house, stand in CASES:
            told = []
            for lot in lots(len(house[0])):
                others = tuple(each for each in members(house) if each not in lot)
                barred = [goal for goal in all_goals(house) if goal not in powers(house, stand, others)]
                told.append((lot, greatest_sets(barred)))
            self.assertEqual(turned_round(house, stand), tuple(told))

    def test_least_lots_and_swings(self):
        for house, stand in CASES:
            for goal in all_goals(house)[::1 if house[1] == 1 else 3]:
                can = [lot for lot in lots(len(house[0])) if goal in powers(house, stand, lot)]
                self.assertEqual(least_lots(house, stand, goal), least_sets(can))
                told = [sum(lot not in can and tuple(sorted(lot + (member,))) in can
                            for lot in lots(len(house[0])) if member not in lot) for member in members(house)]
                self.assertEqual(swings(house, stand, goal), tuple(told))

    def test_idle_members(self):
        found = 0
        for house, stand in CASES:
            idle = idle_members(house, stand)
            told = [member for member in members(house)
                    if all(swings(house, stand, goal)[member] == 0 for goal in all_goals(house))]
            self.assertEqual(idle, tuple(told))
            for lot in lots(len(house[0])):
                less = tuple(member for member in lot if member not in idle)
                self.assertEqual(powers(house, stand, lot), powers(house, stand, less))
            found += 0 < len(idle) < len(house[0])
        self.assertGreater(found, 3)

    def test_alike_members(self):
        found = 0
        for house, stand in CASES:
            rows = alike_members(house, stand)
            self.assertEqual(sorted(member for row in rows for member in row), list(members(house)))
            self.assertEqual(rows, tuple(sorted(rows)))
            for one in members(house):
                for other in members(house):
                    told = True
                    for lot in lots(len(house[0])):
                        if one in lot and other not in lot:
                            far = tuple(sorted(set(lot) - {one} | {other}))
                            told = told and powers(house, stand, lot) == powers(house, stand, far)
                    self.assertIs(any(one in row and other in row for row in rows), told)
            found += 1 < len(rows) < len(house[0])
        self.assertGreater(found, 4)

    def test_told_out(self):
        house = SMALL["two members"]
        begin = first_stand(house)
        self.assertEqual(powers_table(house, begin), (((), (((), (0,)),)), ((0,), (((),), ((0,),))),
                                                      ((0, 1), (((),), ((0,),))), ((1,), (((), (0,)),))))
        self.assertEqual(turned_round(house, begin), (((), ((),)), ((0,), (((),), ((0,),))),
                                                      ((0, 1), (((),), ((0,),))), ((1,), ((),))))
        self.assertEqual(least_lots(house, begin, ((0,),)), ((0,),))
        self.assertEqual(least_lots(house, begin, ((), (0,))), ((),))
        self.assertEqual(least_lots(house, begin, ()), ())
        self.assertEqual(swings(house, begin, ((0,),)), (2, 0))
        self.assertEqual(swings(house, begin, ()), (0, 0))
        self.assertEqual(idle_members(house, begin), (1,))
        self.assertEqual(alike_members(house, begin), ((0,), (1,)))
        self.assertEqual(idle_members(house, ("over", ())), (0, 1))
        self.assertEqual(alike_members(house, ("over", ())), ((0, 1),))
        self.assertEqual(powers_table(house, ("over", ()))[1], ((0,), (((),),)))


class RefusalsTest(unittest.TestCase):
    calls = [(powers_table, ()), (least_lots, (((),),)), (swings, (((),),)), (idle_members, ()), (alike_members, ()),
             (turned_round, ())]

    def test_too_great(self):
        great = first_stand(GREAT)
        for function, rest in self.calls:
            check_refused(self, TooGreat, {"most": 3000}, function, GREAT, great, *rest)
            check_refused(self, TooGreat, {"most": 3000}, function, EDGE_HOUSE, BEYOND_EDGE, *rest)
            check_refused(self, BadHouse, {"place": None}, function, None, None, *rest)
            check_refused(self, BadStand, {"place": "left"}, function, GREAT, great[:7] + (10,), *rest)
            self.assertIsInstance(function(EDGE_HOUSE, ON_EDGE, *rest), tuple)
        for function in (least_lots, swings):
            check_refused(self, BadGoal, {"number": 0}, function, GREAT, great, (None,))
            check_refused(self, BadGoal, {"number": 1}, function, GREAT, great, ((), ()))


if __name__ == "__main__":
    unittest.main()

"""floorpowers/powers.py: ranks, what a lot can force, what it can bar, and from which texts."""

import unittest
from itertools import combinations

from floorpowers.errors import BadGoal, BadHouse, BadLot, BadMember, BadStand, TooGreat
from floorpowers.powers import can_bar, can_force, force_rank, force_ranks, forced_texts
from floorpowers.webs import web_of
from helpers import check_refused
from models import force_numbers
from sittings import BEYOND_EDGE, EDGE_HOUSE, GREAT, HALF, ON_EDGE, SMALL, THIRD, book, first_stand, lots
from test_webs import odd_stand, starts

MORE = {
    "no limit, all kinds": ((1, 1, 1), 1, book(put=(1, HALF), amend=(2, THIRD), lay=(3, HALF), take=(1, HALF),
                                               end=(5, (2, 3, False))), (1, 2, 2), None),
    "each can, two clauses": ((1, 1), 2, book(put=(1, (1, 2, False)), amend=(2, HALF), end=(3, (1, 2, False))), (1, 0),
                              1),
}
HOUSES = list(SMALL.values()) + list(MORE.values())


def goals_of(house):
    """All goals."""
    texts = lots(house[1])
    return [goal for size in range(len(texts) + 1) for goal in combinations(texts, size)]


def some_goals(house):
    """The empty goal, that of all texts, and some between."""
    goals = goals_of(house)
    return [goals[0], goals[-1]] + goals[1:-1:max(1, len(goals) // 4)]


class RanksTest(unittest.TestCase):

    def test_all_stands_all_lots_some_goals(self):
        for house in HOUSES:
            for stand in [first_stand(house), odd_stand(house)] + starts(house)[-4::3]:
                web = web_of(house, stand)
                for lot in lots(len(house[0])):
                    for goal in some_goals(house):
                        numbers = force_numbers(house, stand, lot, goal)
                        told = force_ranks(house, stand, lot, goal)
                        self.assertEqual(told, tuple(numbers.get(here) for here in web))
                        self.assertEqual(force_rank(house, stand, lot, goal), told[0])
                        self.assertIs(can_force(house, stand, lot, goal), told[0] is not None)
                        others = tuple(each for each in range(len(house[0])) if each not in lot)
                        self.assertIs(can_bar(house, stand, others, goal), told[0] is None)

    def test_from_each_stand_as_in_the_web(self):
        for house in HOUSES[::3]:
            begin = first_stand(house)
            lot, goal = tuple(range((len(house[0]) + 1) // 2)), ((0,),)
            web = web_of(house, begin)
            for at, rank in list(enumerate(force_ranks(house, begin, lot, goal)))[::7]:
                self.assertEqual(force_rank(house, web[at], lot, goal), rank)
                self.assertIs(can_force(house, web[at], lot, goal), rank is not None)

    def test_told_out(self):
        house = SMALL["two members"]
        begin = first_stand(house)
        self.assertEqual(force_rank(house, ("over", ()), (), ((),)), 0)
        self.assertIs(force_rank(house, ("over", ()), (0, 1), ((0,),)), None)
        self.assertEqual(force_ranks(house, ("over", (0,)), (), ((), (0,))), (0,))
        self.assertIs(can_force(house, begin, (0,), ((0,),)), True)
        self.assertIs(can_force(house, begin, (1,), ((0,),)), False)
        self.assertIs(can_bar(house, begin, (0,), ((),)), True)
        self.assertIs(can_force(house, begin, (), ((), (0,))), True)
        self.assertIs(can_bar(house, begin, (), ()), True)
        self.assertIs(can_force(house, begin, (0, 1), ()), False)
        endless = SMALL["no limit"]
        self.assertIs(can_force(endless, first_stand(endless), (), ((), (0,))), False)
        self.assertEqual(force_rank(endless, first_stand(endless), (0,), ((0,),)), 4)
        self.assertEqual(force_rank(endless, first_stand(endless), (0,), ((),)), 1)
        self.assertEqual(force_rank(endless, first_stand(endless), (0,), ((), (0,))), 1)

    def test_a_question_that_nobody_decides(self):
        house = ((1, 1), 1, book(put=(1, HALF), end=(2, (1, 2, False))), (1, 0), 0)
        put = ("floor", (), None, (("put", (0,)),), False, 0, 2, 0)
        self.assertIs(can_force(house, put, (0,), ((),)), True)
        self.assertIs(can_force(house, put, (1,), ((),)), True)
        self.assertIs(can_force(house, put, (0,), ((0,),)), False)
        end = ("floor", (), None, (("put", (0,)), ("end",)), False, 0, 2, 0)
        self.assertEqual(force_rank(house, end, (1,), ((),)), 1)
        self.assertEqual(force_rank(house, end, (0, 1), ((0,),)), 6)
        self.assertEqual(force_rank(house, end, (), ((), (0,))), 6)


class TextsTest(unittest.TestCase):

    def test_against_each_beginning(self):
        for house in HOUSES:
            for member in range(len(house[0])):
                for lot in lots(len(house[0]))[::3]:
                    for goal in some_goals(house):
                        told = tuple(text for text in lots(house[1]) if first_stand(house, text, member)
                                     in force_numbers(house, first_stand(house, text, member), lot, goal))
                        self.assertEqual(forced_texts(house, member, lot, goal), told)

    def test_told_out(self):
        house = SMALL["two members"]
        self.assertEqual(forced_texts(house, 0, (0,), ((0,),)), ((), (0,)))
        self.assertEqual(forced_texts(house, 0, (1,), ((0,),)), ())
        self.assertEqual(forced_texts(house, 0, (0, 1), ()), ())
        still = SMALL["nothing may be moved"]
        self.assertEqual(forced_texts(still, 2, (), ((0,),)), ((0,),))

    def test_refusals(self):
        house = SMALL["two members"]
        check_refused(self, BadHouse, {"place": None}, forced_texts, None, None, None, None)
        for member in (2, -1, None, True, (0,)):
            check_refused(self, BadMember, {"value": member}, forced_texts, house, member, None, None)
        check_refused(self, BadLot, {"number": 0}, forced_texts, house, 1, (2,), None)
        check_refused(self, BadGoal, {"number": 1}, forced_texts, house, 1, (), ((), ()))


class TooGreatTest(unittest.TestCase):

    def test_webs(self):
        for house, stand in ((GREAT, first_stand(GREAT)), (EDGE_HOUSE, BEYOND_EDGE)):
            for function in (force_ranks, force_rank, can_force, can_bar):
                for goal in ((), tuple(lots(3))):
                    check_refused(self, TooGreat, {"most": 3000}, function, house, stand, (), goal)
        check_refused(self, TooGreat, {"most": 3000}, forced_texts, GREAT, 0, (), ())
        self.assertEqual(len(force_ranks(EDGE_HOUSE, ON_EDGE, (0, 1), ((0,),))), 3000)
        self.assertIs(can_force(GREAT, ("over", (1,)), (), ((1,),)), True)

    def test_behind_the_other_refusals(self):
        great = first_stand(GREAT)
        for function in (force_ranks, force_rank, can_force, can_bar):
            check_refused(self, BadHouse, {"place": "clauses"}, function, (GREAT[0], 0) + GREAT[2:], None, None, None)
            check_refused(self, BadStand, {"place": "turn"}, function, GREAT, great[:5] + (3, 0, 9), None, None)
            check_refused(self, BadLot, {"number": None}, function, GREAT, great, None, None)
            check_refused(self, BadGoal, {"number": 0}, function, GREAT, great, (), (None,))
        check_refused(self, BadGoal, {"number": None}, forced_texts, GREAT, 0, (), None)


if __name__ == "__main__":
    unittest.main()

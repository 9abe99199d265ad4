"""floorpowers/goals.py: all goals, least ones, crossing ones, and the least and greatest of what a lot can force."""

import unittest

from floorpowers.errors import BadFamily, BadGoal, BadHouse, BadLot, BadStand, TooGreat
from floorpowers.goals import all_goals, crossing, greatest_barred, is_over_some, least_goals, least_of
from helpers import check_refused, strange_values
import models
from models import greatest_sets, least_sets, powers
from sittings import BEYOND_EDGE, EDGE_HOUSE, GREAT, HALF, ON_EDGE, SMALL, book, drawn, first_stand, lots
from test_powers import HOUSES
from test_webs import odd_stand, starts

CLAUSES = [((1, 1), clauses, book(put=(1, HALF)), (1, 0), 1) for clauses in (1, 2, 3)]


def some_wishes(house, count):
    """Some tuples of goals, doubled and crossing ones among them, drawn always in the same way."""
    goals, state, told = models.all_goals(house), 7, []
    for _ in range(count):
        many, state = drawn(state, 6)
        wishes = ()
        for _ in range(many):
            at, state = drawn(state, len(goals))
            wishes += (goals[at],)
        told.append(wishes + wishes[:1] if many == 5 else wishes)
    return told


def all_wishes(house):
    """The empty one, each goal alone, twice, some with () among them, and drawn ones."""
    goals = models.all_goals(house)
    told = [(), ((),), ((), ()), tuple(goals), tuple(goals[1:]), tuple(reversed(goals[1:]))]
    told += [(goal,) for goal in goals] + [(goal, goal) for goal in goals[::5]] + [(goal, ()) for goal in goals[::7]]
    texts = lots(house[1])
    told += [((texts[0], texts[1]), (texts[1],)), ((texts[1],), (texts[0], texts[1])), ((texts[0],), (texts[1],))]
    return told + some_wishes(house, 40)


class GoalsTest(unittest.TestCase):

    def test_all_goals(self):
        for house in CLAUSES:
            goals = all_goals(house)
            self.assertEqual(goals, tuple(models.all_goals(house)))
            self.assertEqual(len(goals), 2 ** 2 ** house[1])
        self.assertEqual(all_goals(CLAUSES[0]), ((), ((),), ((), (0,)), ((0,),)))

    def test_is_over_some(self):
        for house in CLAUSES:
            goals = models.all_goals(house)
            for wishes in all_wishes(house)[::2]:
                for goal in goals[::max(1, len(goals) // 9)]:
                    told = any(set(wish) <= set(goal) for wish in wishes)
                    self.assertIs(is_over_some(house, wishes, goal), told)

    def test_least_of(self):
        for house in CLAUSES:
            for wishes in all_wishes(house):
                self.assertEqual(least_of(house, wishes), least_sets(set(wishes)))
        self.assertEqual(least_of(CLAUSES[0], (((0,),), ((), (0,)), ((0,),))), (((0,),),))
        self.assertEqual(least_of(CLAUSES[0], (((0,),), (), ((), (0,)))), ((),))

    def test_crossing(self):
        for house in CLAUSES:
            goals = models.all_goals(house)
            for wishes in all_wishes(house):
                met = [goal for goal in goals if all(set(wish) & set(goal) for wish in wishes)]
                self.assertEqual(crossing(house, wishes), least_sets(met))
        self.assertEqual(crossing(CLAUSES[2], ()), ((),))
        self.assertEqual(crossing(CLAUSES[2], ((),)), ())
        self.assertEqual(crossing(CLAUSES[2], (((0,),), (), ((1,),))), ())
        self.assertEqual(crossing(CLAUSES[1], (((), (0,)), ((1,),))), (((), (1,)), ((0,), (1,))))

    def test_crossing_goes_there_and_back(self):
        for house in CLAUSES:
            for wishes in all_wishes(house):
                self.assertEqual(crossing(house, crossing(house, wishes)), least_of(house, wishes))

    def test_wishes_that_are_none(self):
        house = CLAUSES[1]
        pairs = [(value, None) for value in strange_values() + [0, [()]]] + [((value,), 0) for value in strange_values()]
        pairs += [((((2,),),), 0), (((), ((0,), ())), 1), (((), ((), ()), None), 1), (((0,),), 0), ((((True,),),), 0),
                  ((((),), ((0,),), 0), 2)]
        for wishes, number in pairs:
            check_refused(self, BadFamily, {"place": number}, is_over_some, house, wishes, None)
            for function in (least_of, crossing):
                check_refused(self, BadFamily, {"place": number}, function, house, wishes)
        check_refused(self, BadGoal, {"number": 1}, is_over_some, house, (), ((), ()))
        for function in (least_of, crossing, all_goals):
            rest = () if function is all_goals else (None,)
            check_refused(self, BadHouse, {"place": "clauses"}, function, house[:1] + (0,) + house[2:], *rest)


class PowersTest(unittest.TestCase):

    def test_through_all_goals(self):
        for house in HOUSES:
            for stand in [first_stand(house), odd_stand(house)] + starts(house)[-3::2]:
                goals = models.all_goals(house)
                for lot in lots(len(house[0])):
                    told = powers(house, stand, lot)
                    self.assertEqual(least_goals(house, stand, lot), least_sets(told))
                    barred = [goal for goal in goals if goal not in told]
                    self.assertEqual(greatest_barred(house, stand, lot), greatest_sets(barred))

    def test_told_out(self):
        house = SMALL["two members"]
        begin = first_stand(house)
        self.assertEqual(least_goals(house, begin, (0,)), (((),), ((0,),)))
        self.assertEqual(least_goals(house, begin, (1,)), (((), (0,)),))
        self.assertEqual(greatest_barred(house, begin, (0,)), ((),))
        self.assertEqual(greatest_barred(house, begin, ()), (((),), ((0,),)))
        endless = SMALL["no limit"]
        self.assertEqual(least_goals(endless, first_stand(endless), ()), ())
        self.assertEqual(greatest_barred(endless, first_stand(endless), ()), (((), (0,)),))
        self.assertEqual(least_goals(house, ("over", (0,)), ()), (((0,),),))
        self.assertEqual(greatest_barred(house, ("over", (0,)), (0, 1)), (((),),))

    def test_facts(self):
        for house in HOUSES[::2]:
            stand = first_stand(house)
            for lot in lots(len(house[0])):
                others = tuple(each for each in range(len(house[0])) if each not in lot)
                forced = least_goals(house, stand, lot)
                for goal in models.all_goals(house):
                    can = is_over_some(house, forced, goal)
                    self.assertIs(can, not any(set(goal) <= set(each) for each in greatest_barred(house, stand, lot)))
                    if can:
                        self.assertTrue(all(set(goal) & set(each) for each in least_goals(house, stand, others)))

    def test_three_clauses(self):
        house = ((1, 1, 1), 3, book(put=(1, HALF)), (1, 2, 0), 1)
        stand = first_stand(house)
        self.assertEqual(least_goals(house, stand, (0, 1)), tuple((text,) for text in lots(3)))
        self.assertEqual(least_goals(house, stand, (1,)), (tuple(lots(3)),))
        self.assertEqual(greatest_barred(house, stand, (1,)), tuple(sorted(
            tuple(text for text in lots(3) if text != left) for left in lots(3))))

    def test_too_great(self):
        great = first_stand(GREAT)
        for function in (least_goals, greatest_barred):
            check_refused(self, TooGreat, {"most": 3000}, function, GREAT, great, ())
            check_refused(self, TooGreat, {"most": 3000}, function, EDGE_HOUSE, BEYOND_EDGE, ())
            check_refused(self, BadHouse, {"place": None}, function, None, None, None)
            check_refused(self, BadStand, {"place": "left"}, function, GREAT, great[:7] + (10,), None)
            check_refused(self, BadLot, {"number": 0}, function, GREAT, great, (3,))
            self.assertTrue(function(EDGE_HOUSE, ON_EDGE, (0, 1)))
        self.assertEqual(len(all_goals(GREAT)), 256)
        self.assertEqual(crossing(GREAT, ()), ((),))


if __name__ == "__main__":
    unittest.main()

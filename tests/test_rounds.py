"""floorpowers/rounds.py: journeys and lots, a round of a goal, many rounds, their course."""

import unittest

from floorpowers.errors import BadGoal, BadHouse, BadLot, BadMember, BadNumber, BadShare, BadText, TooGreat
from floorpowers.rounds import goal_course, is_forced, need_both_lots, need_journey, round_goal, rounds_goal
from helpers import check_refused, strange_values
from far_models import after_rounds, all_lots, goals_of, goals_on, last_side, round_of
from journeys import DEEP_JOURNEYS, GREAT_JOURNEYS, JOURNEYS, PUTS, TWO, wrong_both_lots, wrong_journeys
from sittings import HALF, lots

KINDS = {"place": BadHouse, "member": BadMember, "share": BadShare}
CALLS = [(round_goal, ()), (rounds_goal, (3,)), (is_forced, (3, ())), (goal_course, ())]


def some_lots(journey, most):
    """Some lots of a journey, the least and the greatest among them."""
    told = all_lots(journey)
    return told[:1] + told[1:-1:max(1, len(told) // most)] + told[-1:]


def some_goals(journey, most):
    """Some goals of a journey, the least and the greatest among them."""
    told = goals_of(journey)
    return told[:1] + told[1:-1:max(1, len(told) // most)] + told[-1:]


class RoundTest(unittest.TestCase):

    def test_all_goals_by_a_game_over_both_sittings(self):
        sides = set()
        for journey in JOURNEYS:
            for lots_of in some_lots(journey, 14):
                if journey[4] is not None:
                    sides.add(last_side(journey[0][0], journey[4], lots_of[0]))
                for goal in goals_of(journey):
                    self.assertEqual(round_goal(journey, lots_of, goal), round_of(journey, lots_of, goal))
        self.assertEqual(sides, {"decides", "others", "down", "up"})

    def test_three_clauses(self):
        for journey in DEEP_JOURNEYS:
            for lots_of in some_lots(journey, 4):
                for goal in some_goals(journey, 5):
                    self.assertEqual(round_goal(journey, lots_of, goal), round_of(journey, lots_of, goal))

    def test_told_out(self):
        journey = (PUTS, TWO, 0, 1, HALF)
        everybody = ((0, 1, 2), (0, 1))
        self.assertEqual(round_goal(journey, everybody, ((),)), ((), (0,)))
        self.assertEqual(round_goal(journey, ((), ()), ((),)), ())
        self.assertEqual(round_goal(journey, everybody, ()), ())
        self.assertEqual(round_goal(journey, ((0, 1), ()), ((0,),)), ((), (0,)))
        self.assertEqual(round_goal(journey[:4] + (None,), ((0, 1), ()), ((0,),)), ())
        self.assertEqual(round_goal(journey, ((), ()), ((), (0,))), ((), (0,)))


class RoundsTest(unittest.TestCase):

    def test_no_round_some_and_very_many(self):
        for journey in JOURNEYS:
            for lots_of in some_lots(journey, 5):
                for goal in some_goals(journey, 7):
                    for many in (0, 1, 2, 3, 7, 10 ** 30 - 1, 10 ** 30):
                        told = after_rounds(journey, lots_of, goal, many)
                        self.assertEqual(rounds_goal(journey, lots_of, goal, many), told)
                        for text in lots(journey[0][1]):
                            self.assertEqual(is_forced(journey, lots_of, goal, many, text), text in told)

    def test_courses(self):
        found = set()
        for journey in JOURNEYS + DEEP_JOURNEYS[:1]:
            for lots_of in some_lots(journey, 5):
                for goal in some_goals(journey, 7):
                    told, start = goals_on(journey, lots_of, goal)
                    course = goal_course(journey, lots_of, goal)
                    self.assertEqual(course, (start, len(told) - 1 - start))
                    self.assertLessEqual(sum(course), 2 ** 2 ** journey[0][1])
                    found.add(course)
        self.assertTrue({(0, 1), (1, 1)} <= found)

    def test_told_out(self):
        journey = (PUTS, TWO, 0, 1, HALF)
        everybody = ((0, 1, 2), (0, 1))
        self.assertEqual(goal_course(journey, everybody, ((),)), (1, 1))
        self.assertEqual(goal_course(journey, everybody, ()), (0, 1))
        self.assertEqual(rounds_goal(journey, everybody, ((),), 0), ((),))
        self.assertEqual(rounds_goal(journey, everybody, ((),), 10 ** 30), ((), (0,)))
        self.assertTrue(is_forced(journey, everybody, ((),), 1, (0,)))
        self.assertFalse(is_forced(journey, everybody, ((),), 0, (0,)))


class RefusalsTest(unittest.TestCase):

    def test_journeys(self):
        for journey in (JOURNEYS[1], JOURNEYS[0], JOURNEYS[11]):
            self.assertIs(need_journey(journey), journey)
            for wrong, field, value in wrong_journeys(journey):
                name = "value" if field in ("member", "share") else "place"
                check_refused(self, KINDS[field], {name: value}, need_journey, wrong)
                check_refused(self, KINDS[field], {name: value}, need_both_lots, wrong, None)
                for function, rest in CALLS:
                    check_refused(self, KINDS[field], {name: value}, function, wrong, None, None, *rest)

    def test_lots(self):
        for journey in (JOURNEYS[1], JOURNEYS[4], JOURNEYS[12]):
            for good in all_lots(journey):
                self.assertIs(need_both_lots(journey, good), good)
            for wrong, number in wrong_both_lots(journey):
                check_refused(self, BadLot, {"number": number}, need_both_lots, journey, wrong)
                for function, rest in CALLS:
                    check_refused(self, BadLot, {"number": number}, function, journey, wrong, None, *rest)

    def test_goals_numbers_texts(self):
        journey, lots_of = JOURNEYS[0], ((), ())
        for function, rest in CALLS:
            check_refused(self, BadGoal, {"number": None}, function, journey, lots_of, [], *rest)
            check_refused(self, BadGoal, {"number": 1}, function, journey, lots_of, ((), (1,)), *rest)
        for many in strange_values() + [-1, 10 ** 30 + 1, "1", (1,)]:
            check_refused(self, BadNumber, {"value": many}, rounds_goal, journey, lots_of, (), many)
            check_refused(self, BadNumber, {"value": many}, is_forced, journey, lots_of, (), many, None)
        for text, number in ((None, None), ((1,), 0), ((0, 0), 1), ((True,), 0), ([], None)):
            check_refused(self, BadText, {"number": number}, is_forced, journey, lots_of, (), 0, text)

    def test_too_great(self):
        for journey in GREAT_JOURNEYS:
            self.assertIs(need_journey(journey), journey)
            good = ((0,), ())
            self.assertIs(need_both_lots(journey, good), good)
            for function, rest in CALLS:
                check_refused(self, TooGreat, {"most": 3000}, function, journey, good, ((),), *rest)
                check_refused(self, TooGreat, {"most": 3000}, function, journey, ((), ()), (), *rest)
                check_refused(self, BadLot, {"number": None}, function, journey, None, ((),), *rest)
                check_refused(self, BadGoal, {"number": 0}, function, journey, good, (0,), *rest)
            check_refused(self, TooGreat, {"most": 3000}, rounds_goal, journey, good, (), 0)
            check_refused(self, BadNumber, {"value": None}, rounds_goal, journey, good, (), None)
            check_refused(self, TooGreat, {"most": 3000}, is_forced, journey, good, (), 0, ())
            check_refused(self, BadText, {"number": None}, is_forced, journey, good, (), 0, None)


if __name__ == "__main__":
    unittest.main()

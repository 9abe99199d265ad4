"""floorpowers/familieson.py: numbers of goals, maps and their courses, maps of lots, families, fewest lots."""

import unittest
from itertools import product

from floorpowers.errors import (BadFamily, BadGoal, BadHouse, BadLot, BadMember, BadNumber, BadShare, BadText,
                                TooGreat)
from floorpowers.familieson import (family_goals, fewest_lots, goal_at, goal_number, is_rising, map_course, map_done,
                                    need_map, round_map)
from helpers import check_refused, strange_values
from far_models import after_rounds, all_lots, goals_of, round_of
from journeys import DEEP_JOURNEYS, GREAT_JOURNEYS, JOURNEYS, PUTS, TWO, wrong_both_lots, wrong_journeys
from models import least_sets
from sittings import GREAT, HALF, drawn, lots
from test_rounds import some_goals, some_lots

KINDS = {"place": BadHouse, "member": BadMember, "share": BadShare}


def goals_with(clauses):
    """All goals of so many clauses, at their numbers."""
    texts = lots(clauses)
    return [tuple(text for at, text in enumerate(texts) if number & 2 ** at) for number in range(2 ** len(texts))]


def drawn_map(size, state):
    """A map of so many numbers, drawn always in the same way."""
    numbers = []
    for _ in range(size):
        number, state = drawn(state, size)
        numbers.append(number)
    return tuple(numbers)


def some_maps():
    """All maps of two numbers, many of four, some of sixteen."""
    told = list(product(range(2), repeat=2)) + list(product(range(4), repeat=4))[::3]
    told += [drawn_map(16, state) for state in range(40)]
    cycles = [1, 2, 0, 4, 5, 6, 3, 8, 9, 10, 11, 7, 13, 12, 15, 14]
    return told + [tuple(cycles), tuple(range(16)), tuple(range(1, 16)) + (0,), (0,) + tuple(range(15))]


def maps_done(numbers, most):
    """A map done 0, 1, 2 .. times."""
    told = [tuple(range(len(numbers)))]
    for _ in range(most):
        told.append(tuple(numbers[each] for each in told[-1]))
    return told


class NumbersTest(unittest.TestCase):

    def test_all_goals(self):
        for clauses in (1, 2, 3):
            for number, goal in enumerate(goals_with(clauses)):
                self.assertEqual(goal_number(clauses, goal), number)
                self.assertEqual(goal_at(clauses, number), goal)

    def test_refusals(self):
        for clauses in strange_values() + [0, 4, -1, "1", (1,)]:
            check_refused(self, BadNumber, {"value": clauses}, goal_number, clauses, None)
            check_refused(self, BadNumber, {"value": clauses}, goal_at, clauses, None)
        for goal, number in ((None, None), ([], None), (((1,),), 0), (((), ()), 1), (((0,), ()), 1), ((0,), 0)):
            check_refused(self, BadGoal, {"number": number}, goal_number, 1, goal)
        for clauses in (1, 2, 3):
            for number in strange_values() + [-1, 2 ** 2 ** clauses, "0", (0,)]:
                check_refused(self, BadNumber, {"value": number}, goal_at, clauses, number)


class MapsTest(unittest.TestCase):

    def test_done_many_times(self):
        for numbers in some_maps():
            self.assertIs(need_map(numbers), numbers)
            told = maps_done(numbers, 400)
            for many in (0, 1, 2, 3, 5, 17, 140, 399):
                self.assertEqual(map_done(numbers, many), told[many])
            start, length = map_course(numbers)
            for many in (10 ** 30, 10 ** 30 - 1, 123456789):
                self.assertEqual(map_done(numbers, many), told[start + (many - start) % length])

    def test_courses(self):
        found = set()
        for numbers in some_maps():
            told = maps_done(numbers, 400)
            start = next(at for at, each in enumerate(told) if each in told[at + 1:])
            length = told[start + 1:].index(told[start]) + 1
            self.assertEqual(map_course(numbers), (start, length))
            found.add((start > 0, length > 1))
        self.assertEqual(len(found), 4)
        self.assertEqual(map_course((1, 2, 0, 4, 5, 6, 3, 8, 9, 10, 11, 7, 13, 12, 15, 14)), (0, 60))

    def test_rising_by_all_pairs_of_goals(self):
        found = set()
        for numbers in some_maps() + [tuple(number & 5 for number in range(16)), (0, 3, 2, 3), (0, 0, 2, 3)]:
            goals = goals_with({2: 0, 4: 1, 16: 2}[len(numbers)]) if len(numbers) > 2 else [(), ((),)]
            told = all(set(goals[numbers[low]]) <= set(goals[numbers[high]])
                       for low, high in product(range(len(numbers)), repeat=2) if set(goals[low]) <= set(goals[high]))
            self.assertIs(is_rising(numbers), told)
            found.add((len(numbers), told))
        self.assertEqual(len(found), 6)

    def test_refusals(self):
        for function, rest in ((need_map, ()), (map_done, (None,)), (map_course, ()), (is_rising, ())):
            for value in strange_values() + [(), (0,), (0, 0, 0), (0,) * 8, (0,) * 15, (0,) * 17, [0, 0], "01",
                                             (0,) * 256]:
                check_refused(self, BadFamily, {"place": None}, function, value, *rest)
            for size in (2, 4, 16):
                for at in (0, size - 1):
                    for value in strange_values() + [-1, size, "0", (0,)]:
                        wrong = (0,) * at + (value,) + (None,) * (size - at - 1)
                        check_refused(self, BadFamily, {"place": at}, function, wrong, *rest)
        for many in strange_values() + [-1, 10 ** 30 + 1, "1"]:
            check_refused(self, BadNumber, {"value": many}, map_done, (0, 1), many)


class LotsTest(unittest.TestCase):

    def test_maps_by_all_goals(self):
        for journey in JOURNEYS:
            goals = goals_with(journey[0][1])
            for lots_of in some_lots(journey, 6):
                told = round_map(journey, lots_of)
                rounds = [round_of(journey, lots_of, goal) for goal in goals]
                self.assertEqual([goals[number] for number in told], rounds)
                self.assertTrue(is_rising(told))

    def test_families_by_all_goals(self):
        sizes = set()
        for journey in JOURNEYS:
            for lots_of in some_lots(journey, 4):
                for many in (0, 1, 2, 10 ** 30):
                    for text in lots(journey[0][1]):
                        forced = [goal for goal in goals_of(journey)
                                  if text in after_rounds(journey, lots_of, goal, many)]
                        told = family_goals(journey, lots_of, text, many)
                        self.assertEqual(told, least_sets(forced))
                        sizes.add(len(told))
                        if many == 0:
                            self.assertEqual(told, ((text,),))
        self.assertTrue({0, 1, 2} <= sizes)

    def test_fewest_by_all_lots(self):
        sizes = set()
        for journey in JOURNEYS[:4] + JOURNEYS[7:9] + JOURNEYS[11:13]:
            for goal in some_goals(journey, 4):
                for text in lots(journey[0][1])[:2]:
                    for many in (0, 1, 3, 10 ** 30):
                        forcing = [each for each in all_lots(journey)
                                   if text in after_rounds(journey, each, goal, many)]
                        least = [each for each in forcing if not any(
                            other != each and set(other[0]) <= set(each[0]) and set(other[1]) <= set(each[1])
                            for other in forcing)]
                        self.assertEqual(fewest_lots(journey, goal, text, many), tuple(sorted(least)))
                        sizes.add(len(least))
        self.assertTrue({0, 1} <= sizes and max(sizes) > 2, sizes)

    def test_three_clauses(self):
        journey = DEEP_JOURNEYS[0]
        goal = ((), (0,), (0, 1))
        forcing = [each for each in all_lots(journey) if () in after_rounds(journey, each, goal, 2)]
        least = [each for each in forcing if not any(
            other != each and set(other[0]) <= set(each[0]) and set(other[1]) <= set(each[1]) for other in forcing)]
        self.assertEqual(fewest_lots(journey, goal, (), 2), tuple(sorted(least)))

    def test_told_out(self):
        journey = (PUTS, TWO, 0, 1, HALF)
        self.assertEqual(round_map(journey, ((0, 1, 2), (0, 1))), (0, 3, 3, 3))
        self.assertEqual(round_map(journey, ((), ())), (0, 0, 0, 3))
        self.assertEqual(family_goals(journey, ((0, 1, 2), (0, 1)), (), 1), (((),), ((0,),)))
        self.assertEqual(family_goals(journey, ((), ()), (), 1), (((), (0,)),))
        self.assertEqual(family_goals(journey, ((), ()), (0,), 0), (((0,),),))
        self.assertEqual(fewest_lots(journey, ((), (0,)), (), 1), (((), ()),))
        self.assertEqual(fewest_lots(journey, (), (), 1), ())


class RefusalsTest(unittest.TestCase):

    def test_in_turn(self):
        for journey in (JOURNEYS[1], JOURNEYS[12]):
            for wrong, field, value in wrong_journeys(journey):
                name = "value" if field in ("member", "share") else "place"
                check_refused(self, KINDS[field], {name: value}, round_map, wrong, None)
                check_refused(self, KINDS[field], {name: value}, family_goals, wrong, None, None, None)
                check_refused(self, KINDS[field], {name: value}, fewest_lots, wrong, None, None, None)
            for wrong, number in wrong_both_lots(journey):
                check_refused(self, BadLot, {"number": number}, round_map, journey, wrong)
                check_refused(self, BadLot, {"number": number}, family_goals, journey, wrong, None, None)
            good = ((), ())
            check_refused(self, BadText, {"number": None}, family_goals, journey, good, None, None)
            check_refused(self, BadGoal, {"number": None}, fewest_lots, journey, None, None, None)
            check_refused(self, BadText, {"number": 0}, fewest_lots, journey, (), (7,), None)
            for many in strange_values() + [-1, 10 ** 30 + 1]:
                check_refused(self, BadNumber, {"value": many}, family_goals, journey, good, (), many)
                check_refused(self, BadNumber, {"value": many}, fewest_lots, journey, (), (), many)

    def test_too_great(self):
        good = ((), ())
        for journey in GREAT_JOURNEYS + DEEP_JOURNEYS + [(GREAT, GREAT, 0, 0, None)]:
            check_refused(self, TooGreat, {"most": 16}, round_map, journey, good)
            check_refused(self, BadLot, {"number": None}, round_map, journey, None)
            check_refused(self, TooGreat, {"most": 16}, family_goals, journey, good, (), 0)
            check_refused(self, BadNumber, {"value": None}, family_goals, journey, good, (), None)
        two = GREAT[:1] + (2,) + GREAT[2:]
        small = JOURNEYS[12][0]
        for journey in ((two, small, 0, 0, None), (small, two, 0, 0, HALF)):
            check_refused(self, TooGreat, {"most": 3000}, round_map, journey, good)
            check_refused(self, TooGreat, {"most": 3000}, family_goals, journey, good, (), 0)
            check_refused(self, TooGreat, {"most": 3000}, fewest_lots, journey, (), (), 0)
            check_refused(self, BadNumber, {"value": -1}, fewest_lots, journey, (), (), -1)
        for journey in GREAT_JOURNEYS:
            check_refused(self, TooGreat, {"most": 3000}, fewest_lots, journey, ((),), (), 10 ** 30)


if __name__ == "__main__":
    unittest.main()

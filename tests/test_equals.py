"""floorpowers/equals.py: equal powers, no stronger lots, parting powers, same lots, papers on the powers of a lot."""

import unittest

from floorpowers.equals import (check_lot_paper, have_equal_powers, is_no_stronger, lot_paper, parting_power,
                                same_lots_carry)
from floorpowers.errors import BadHouse, BadLot, BadPaper, BadStand, TooGreat
from floorpowers.plans import check_power, power_paper
from floorpowers.stands import is_stand
from helpers import check_refused, strange_values
from models import all_goals, greatest_sets, least_sets, powers
from sittings import (ALL, BEYOND_EDGE, EDGE_HOUSE, GREAT, HALF, LEAST_HALF, NOBODY, ON_EDGE, SMALL, THIRD, book,
                      first_stand, graph, is_carried, lots)
from test_tables import CASES, SAYS

RULES = book(put=(1, HALF), end=(3, HALF))
BASE = ((2, 1, 1), 1, RULES, (1, 2, 0), 1)
# The same house with one thing otherwise: weights by which the same lots carry first, then by which they don't.
OTHERS = [((4, 2, 2),) + BASE[1:], ((50, 25, 25),) + BASE[1:], ((3, 2, 2),) + BASE[1:], ((1, 1, 1),) + BASE[1:],
          ((5, 1, 1),) + BASE[1:], ((1, 1, 2),) + BASE[1:], BASE[:3] + ((0, 1, 2), 1), BASE[:3] + ((2, 0, 1), 1),
          BASE[:4] + (0,), BASE[:4] + (2,), BASE[:4] + (None,)]
OTHERS += [BASE[:2] + (rules,) + BASE[3:] for rules in (
    book(put=(1, HALF)), book(put=(1, LEAST_HALF), end=(3, HALF)), book(put=(1, HALF), end=(3, ALL)),
    book(put=(1, NOBODY), end=(3, HALF)), book(put=(3, HALF), end=(1, HALF)), book(put=(1, HALF), amend=(2, HALF),
                                                                                   end=(3, HALF)))]


def place_pairs():
    """Pairs of stands, of one house and of two."""
    pairs = []
    for other in [BASE] + OTHERS:
        for stand in list(graph(BASE, first_stand(BASE)))[::12] + [("over", (0,)), first_stand(BASE)]:
            far = stand if is_stand(other, stand) else first_stand(other, stand[1], 0)
            pairs += [((BASE, stand), (other, far)), ((other, far), (BASE, stand))]
    stands = list(graph(BASE, first_stand(BASE)))[::17]
    return pairs + [((BASE, one), (BASE, other)) for one in stands for other in stands]


PAIRS = place_pairs()


class EqualsTest(unittest.TestCase):

    def parting(self, place, far_place):
        """The parting power, lot for lot and goal for goal."""
        for lot in sorted(lots(len(place[0][0])), key=lambda each: (len(each), each)):
            mine, others = powers(*place, lot), powers(*far_place, lot)
            for goal in sorted(all_goals(place[0]), key=lambda each: (len(each), each)):
                if (goal in mine) != (goal in others):
                    return (lot, goal, goal in mine)
        return None

    def test_lot_for_lot_and_goal_for_goal(self):
        equal = 0
        for place, far_place in PAIRS:
            told = self.parting(place, far_place)
            self.assertEqual(parting_power(*place, *far_place), told)
            self.assertIs(have_equal_powers(*place, *far_place), told is None)
            for lot in lots(3):
                no_more = powers(*place, lot) <= powers(*far_place, lot)
                self.assertIs(is_no_stronger(*place, *far_place, lot), no_more)
            equal += told is None
        self.assertTrue(20 < equal < len(PAIRS) - 20)

    def test_the_same_lots(self):
        found = []
        for one in [BASE] + OTHERS + SAYS:
            for other in [BASE] + OTHERS + SAYS:
                kinds = [rule[0] for rule in one[2]]
                told = kinds == [rule[0] for rule in other[2]] and len(one[0]) == len(other[0]) and all(
                    is_carried(one, (kind,), lot) == is_carried(other, (kind,), lot)
                    for kind in kinds for lot in lots(len(one[0])))
                self.assertIs(same_lots_carry(one, other), told)
                found.append(told)
        self.assertTrue(20 < sum(found) < len(found) - 20)
        one, two = ((9,), 1, RULES, (0,), 1), ((9, 1), 1, RULES, (0, 0), 1)
        self.assertIs(same_lots_carry(one, two), False)
        self.assertIs(same_lots_carry(two, two[:2] + (RULES[:1],) + two[3:]), False)
        self.assertIs(same_lots_carry(GREAT, ((3, 2, 1), 1) + GREAT[2:]), True)
        self.assertIs(same_lots_carry(GREAT, ((6, 4, 2),) + GREAT[1:3] + ((0, 0, 0), None)), True)

    def test_fact(self):
        for other in OTHERS:
            if same_lots_carry(BASE, other) and other[3:] == BASE[3:]:
                ranks = [rule[1] for rule in other[2]] == [rule[1] for rule in RULES]
                for stand in list(graph(BASE, first_stand(BASE)))[::9] if ranks else []:
                    self.assertIs(have_equal_powers(BASE, stand, other, stand), True)

    def test_told_out(self):
        begin = first_stand(BASE)
        self.assertEqual(parting_power(BASE, ("over", ()), BASE, ("over", (0,))), ((), ((),), True))
        self.assertEqual(parting_power(BASE, ("over", (0,)), BASE, ("over", ())), ((), ((),), False))
        self.assertIs(parting_power(BASE, begin, ((4, 2, 2),) + BASE[1:], begin), None)
        one = ((5, 1, 1),) + BASE[1:]
        self.assertEqual(parting_power(BASE, begin, one, begin), ((0,), ((0,),), False))

    def test_two_clauses(self):
        house = ((1, 1), 2, book(put=(1, HALF)), (1, 0), 1)
        other = house[:2] + (book(put=(1, LEAST_HALF)),) + house[3:]
        begin = first_stand(house)
        self.assertEqual(parting_power(house, begin, other, begin), self.parting((house, begin), (other, begin)))
        self.assertIs(have_equal_powers(house, begin, other, begin), False)

    def test_refusals(self):
        begin = first_stand(BASE)
        two = ((2, 1), 2, RULES, (1, 0), 1)
        calls = [(have_equal_powers, ()), (parting_power, ()), (is_no_stronger, (None,))]
        great = first_stand(GREAT)
        for function, rest in calls:
            check_refused(self, BadHouse, {"place": None}, function, None, None, None, None, *rest)
            check_refused(self, BadStand, {"place": None}, function, BASE, None, None, None, *rest)
            check_refused(self, BadHouse, {"place": None}, function, BASE, begin, None, None, *rest)
            check_refused(self, BadStand, {"place": "turn"}, function, BASE, begin, two, begin[:5] + (2, 0, 1), *rest)
            check_refused(self, BadHouse, {"place": "weights"}, function, BASE, begin, two, ("over", ()), *rest)
            check_refused(self, BadHouse, {"place": "weights"}, function, two, ("over", ()), BASE, begin, *rest)
            check_refused(self, BadHouse, {"place": "clauses"}, function, BASE, begin, BASE[:1] + (2,) + BASE[2:],
                          begin, *rest)
            check_refused(self, BadHouse, {"place": "clauses"}, function, GREAT, great, BASE, begin, *rest)
        for lot, number in ((None, None), ((3,), 0), ((1, 0), 1)):
            check_refused(self, BadLot, {"number": number}, is_no_stronger, GREAT, great, GREAT, great, lot)
        check_refused(self, BadHouse, {"place": None}, same_lots_carry, None, None)
        check_refused(self, BadHouse, {"place": "limit"}, same_lots_carry, BASE, BASE[:4] + (10,))
        self.assertIs(same_lots_carry(BASE, two), False)

    def test_too_great(self):
        great, over = first_stand(GREAT), ("over", ())
        for function, rest in ((have_equal_powers, ()), (parting_power, ()), (is_no_stronger, ((0,),))):
            check_refused(self, TooGreat, {"most": 3000}, function, GREAT, great, GREAT, over, *rest)
            check_refused(self, TooGreat, {"most": 3000}, function, GREAT, over, GREAT, great, *rest)
            self.assertIn(function(EDGE_HOUSE, ON_EDGE, EDGE_HOUSE, ON_EDGE, *rest), (True, None))
        check_refused(self, TooGreat, {"most": 3000}, lot_paper, GREAT, great, ())
        check_refused(self, TooGreat, {"most": 3000}, lot_paper, EDGE_HOUSE, BEYOND_EDGE, ())


class LotPapersTest(unittest.TestCase):

    def check_fails(self, word, case, paper):
        check_refused(self, BadPaper, {"word": word}, check_lot_paper, *case, paper)

    def test_told_ones(self):
        for house, stand in CASES[::2]:
            for lot in lots(len(house[0])):
                paper = lot_paper(house, stand, lot)
                told = powers(house, stand, lot)
                self.assertEqual(tuple(goal for goal, _ in paper[0]), least_sets(told))
                barred = [goal for goal in all_goals(house) if goal not in told]
                self.assertEqual(tuple(goal for goal, _ in paper[1]), greatest_sets(barred))
                for at, word in enumerate(("force", "bar")):
                    for goal, each in paper[at]:
                        self.assertEqual(check_power(house, stand, lot, goal, each), word)
                self.assertEqual(check_lot_paper(house, stand, lot, paper), len(paper[0]))

    def cases(self):
        """Places and lots with papers that have something on both sides."""
        house = SMALL["no limit"]
        return [(BASE, first_stand(BASE), (0,)), (BASE, first_stand(BASE), (1, 2)), (house, first_stand(house), (0,)),
                (SMALL["two members"], first_stand(SMALL["two members"]), (1,))]

    def test_forms(self):
        wrong = strange_values() + [(), ((),), ((), (), ()), [(), ()], ((), []), ([], ()), ("", ()), ((), None),
                                    ((None,), ()), ((), (None,)), ((((),),), ()), ((((), None, None),), ()),
                                    (([(), None],), ()), (((None, ("force", ())),), ()), (((((3,),), None),), ()),
                                    ((), ((((), ()), None),)), (((((0,), ()), None),), ()), ((), ((((True,),), None),))]
        for case in self.cases():
            for paper in wrong:
                self.check_fails("form", case, paper)
            good = lot_paper(*case)
            self.check_fails("form", case, (good[0], good[1] + (((), None, None),)))
            self.check_fails("form", case, (good[0], list(good[1])))
            self.check_fails("form", case, ((((), None),), ((None, None),)))
        for paper in wrong:
            self.check_fails("form", (GREAT, first_stand(GREAT), ()), paper)

    def test_one_fault_each(self):
        for case in self.cases():
            forced, barred = lot_paper(*case)
            self.assertTrue(forced and barred)
            bad = [None, (), ("force",), ("force", ()), ["force", ()], ("force", []), ("bar", ()), ("Force", ()),
                   barred[0][1], ("bar", forced[0][1][1]), (forced[0][1][0], forced[0][1][1], ())] + strange_values()
            for value in bad:
                self.check_fails("force", case, (((forced[0][0], value),) + forced[1:], barred))
                self.check_fails("force", case, (forced + ((forced[0][0], value),), barred))
                self.check_fails("force", case, (forced + ((forced[0][0], value),), ((barred[0][0], None),)))
                self.check_fails("force", case, (((forced[0][0], value),), ()))
            for value in bad[:3] + [("bar", ()), ("bar", []), ("force", ()), forced[0][1], ("force", barred[0][1][1]),
                                     (barred[0][1][1], "bar")]:
                self.check_fails("bar", case, (forced, ((barred[0][0], value),) + barred[1:]))
                self.check_fails("bar", case, (forced, barred + ((barred[0][0], value),)))
                self.check_fails("bar", case, ((), ((barred[0][0], value),)))
            self.check_fails("force", case, (((barred[0][0], forced[0][1]),) + forced, barred))
            self.check_fails("bar", case, (forced, barred + ((forced[0][0], barred[0][1]),)))
            for at in range(len(forced)):
                self.check_fails("whole", case, (forced[:at] + forced[at + 1:], barred))
            for at in range(len(barred)):
                self.check_fails("whole", case, (forced, barred[:at] + barred[at + 1:]))
            self.check_fails("whole", case, ((), ()))

    def test_other_papers_that_hold(self):
        for house, stand, lot in self.cases():
            forced, barred = lot_paper(house, stand, lot)
            told = powers(house, stand, lot)
            more = tuple((goal, power_paper(house, stand, lot, goal)) for goal in sorted(told))
            less = tuple((goal, power_paper(house, stand, lot, goal)) for goal in all_goals(house) if goal not in told)
            self.assertEqual(check_lot_paper(house, stand, lot, (more, barred)), len(more))
            self.assertEqual(check_lot_paper(house, stand, lot, (more[::-1], less + less)), len(more))
            self.assertEqual(check_lot_paper(house, stand, lot, (forced * 3, barred)), 3 * len(forced))

    def test_no_web_is_gone_through(self):
        self.check_fails("whole", (GREAT, first_stand(GREAT), ()), ((), ()))
        check_refused(self, BadLot, {"number": 0}, check_lot_paper, GREAT, first_stand(GREAT), (3,), None)
        check_refused(self, BadStand, {"place": None}, check_lot_paper, GREAT, (), (), None)
        over = ("over", (0,))
        self.assertEqual(check_lot_paper(GREAT, over, (), lot_paper(GREAT, over, ())), 1)
        self.assertEqual(check_lot_paper(EDGE_HOUSE, ON_EDGE, (0,), lot_paper(EDGE_HOUSE, ON_EDGE, (0,))), 1)


if __name__ == "__main__":
    unittest.main()

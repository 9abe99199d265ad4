"""floorpowers/plans.py: plans, choices, papers of both words, rows that are led, and those led by draws."""

import unittest

from floorpowers.errors import BadGoal, BadHouse, BadLot, BadNumber, BadPaper, BadRow, BadStand, TooGreat
from floorpowers.plans import check_power, choice_at, is_led, led_row, plan_of, power_paper
from floorpowers.webs import web_of
from helpers import OtherTuple, check_refused, strange_values
from models import choice, force_numbers, is_bar_paper, is_force_paper
from sittings import (BEYOND_EDGE, EDGE_HOUSE, GREAT, HALF, LEAST_HALF, ON_EDGE, SMALL, THIRD, acts, after, all_rows,
                      book, first_stand, graph, lots)
from test_powers import HOUSES, some_goals
from test_webs import ROW_HOUSES, odd_stand, starts

# A house with votes of all sides, with a question that each can keep down, or bring up.
SIDED = ((2, 1, 1), 1, book(put=(1, HALF), amend=(2, (3, 4, False)), lay=(3, (1, 4, False)), end=(4, HALF)), (1, 2, 0),
         2)


def cases(houses, every):
    """Houses, stands, lots and goals, some of all."""
    told = [(house, stand, lot, goal) for house in houses for stand in [first_stand(house), odd_stand(house)]
            + starts(house)[-4::3] for lot in lots(len(house[0])) for goal in some_goals(house)]
    return told[::every]


class PlanTest(unittest.TestCase):

    def test_all_lots_and_some_goals(self):
        for house, stand, lot, goal in cases(HOUSES + [SIDED], 3):
            numbers = force_numbers(house, stand, lot, goal)
            web = web_of(house, stand)
            plan = tuple((here, numbers[here], choice(house, here, lot, numbers)) for here in web if here in numbers)
            self.assertEqual(plan_of(house, stand, lot, goal), plan if stand in numbers else ())
            for here in web[::max(1, len(web) // 5)]:
                self.assertEqual(choice_at(house, stand, lot, goal, here), choice(house, here, lot, numbers))

    def test_all_choices_of_a_web(self):
        stand = first_stand(SIDED)
        found = {}
        for lot in lots(3):
            for goal in (((),), ((0,),), ((), (0,)), ()):
                numbers = force_numbers(SIDED, stand, lot, goal)
                for here in web_of(SIDED, stand)[::3]:
                    told = choice_at(SIDED, stand, lot, goal, here)
                    self.assertIs(type(told), type(choice(SIDED, here, lot, numbers)))
                    self.assertEqual(told, choice(SIDED, here, lot, numbers))
                    found[told] = True
        self.assertTrue({None, True, False, ("pass",), ("move", ("end",))} <= set(found))

    def test_told_out(self):
        house = SMALL["no limit"]
        begin = first_stand(house)
        plan = plan_of(house, begin, (0,), ((0,),))
        self.assertEqual(plan[0], (begin, 4, ("move", ("put", (0,)))))
        self.assertIn((("over", (0,)), 0, None), plan)
        self.assertIn((("floor", (), None, (("put", (0,)),), False, 0, 1, None), 2, True), plan)
        self.assertEqual(plan_of(house, begin, (), ((), (0,))), ())
        self.assertEqual(plan_of(house, ("over", ()), (), ((),)), ((("over", ()), 0, None),))
        self.assertEqual(plan_of(house, ("over", ()), (0,), ((0,),)), ())
        end = ("floor", (), None, (("end",),), False, 0, 1, None)
        self.assertIs(choice_at(house, begin, (0,), ((),), end), True)
        self.assertIs(choice_at(house, begin, (0,), ((0,),), end), False)
        self.assertIs(choice_at(house, begin, (), ((0,),), end), None)

    def test_a_choice_where_the_first_stand_has_no_rank(self):
        house = SMALL["two members"]
        begin = first_stand(house)
        self.assertEqual(plan_of(house, begin, (1,), ((0,),)), ())
        late = ("floor", (0,), None, (), False, 1, 1, 0)
        self.assertIn(late, web_of(house, begin))
        self.assertEqual(choice_at(house, begin, (1,), ((0,),), late), ("pass",))

    def test_up_as_soon_as_down(self):
        """What makes no difference is brought up."""
        house = ((1,), 1, book(put=(1, HALF), end=(4, HALF)), (0,), 0)
        stand = ("floor", (), None, (("put", ()),), False, 0, 1, 0)
        self.assertEqual(plan_of(house, stand, (0,), ((),))[0], (stand, 2, True))

    def test_other_stands(self):
        house = SMALL["no limit"]
        begin = first_stand(house)
        for other, place in ((None, None), ((), None), (begin[:5] + (1, 0, None), "turn"), (("over", (1,)), "text"),
                             (begin[:7] + (1,), "left"), (("over", (False,)), "text")):
            check_refused(self, BadStand, {"place": place}, choice_at, house, begin, (), (), other)
        for other in (("floor", (), (0,), (), False, 0, 0, None), ("floor", (), None, (("put", ()),), True, 0, 0, None)):
            check_refused(self, BadStand, {"place": "web"}, choice_at, house, begin, (0,), (), other)
        check_refused(self, BadStand, {"place": "web"}, choice_at, house, ("over", ()), (0,), (), begin)
        great = first_stand(GREAT)
        check_refused(self, BadStand, {"place": "left"}, choice_at, GREAT, great, (), (), great[:7] + (10,))
        check_refused(self, TooGreat, {"most": 3000}, choice_at, GREAT, great, (), (), great[:7] + (8,))
        check_refused(self, TooGreat, {"most": 3000}, choice_at, GREAT, great, (), (), ("over", ()))


class PapersTest(unittest.TestCase):

    def check_paper(self, case, paper, does_hold):
        if does_hold:
            self.assertEqual(check_power(*case, paper), paper[0])
        else:
            check_refused(self, BadPaper, {"word": paper[0]}, check_power, *case, paper)

    def test_told_ones(self):
        for case in cases(HOUSES + [SIDED], 7):
            house, stand, lot, goal = case
            numbers = force_numbers(*case)
            paper = power_paper(*case)
            self.assertEqual(paper[0], "force" if stand in numbers else "bar")
            self.check_paper(case, paper, True)
            unranked = tuple(here for here in graph(house, stand) if here not in numbers)
            self.check_paper(case, ("bar", unranked), stand not in numbers)
            self.check_paper(case, ("force", plan_of(*case)), stand in numbers)
            ranked = tuple((here, rank, choice(house, here, lot, numbers)) for here, rank in numbers.items())
            self.check_paper(case, ("force", ranked), stand in numbers)

    def some(self, word, most):
        """Cases with not too great papers of a word."""
        told = [case for case in cases([SMALL["no limit"], SMALL["nobody carries"], SMALL["each can bring it up"],
                                        SIDED[:4] + (1,), SMALL["one member"]], 1) if power_paper(*case)[0] == word]
        return [case for case in told[::max(1, len(told) // most)] if 1 < len(power_paper(*case)[1]) < 80]

    def test_a_triple_left_out_doubled_put_in(self):
        for case in self.some("force", 25):
            house, stand, lot, goal = case
            rows = power_paper(*case)[1]
            more = (("over", ()), 0, None), (("over", (0,)), 0, None), (first_stand(house, (0,)), 3, None)
            for at, row in enumerate(rows):
                less = rows[:at] + rows[at + 1:]
                self.check_paper(case, ("force", less), is_force_paper(house, stand, lot, goal, less))
                self.check_paper(case, ("force", rows + (row,)), False)
            for row in more:
                told = rows + (row,)
                self.check_paper(case, ("force", told), is_force_paper(house, stand, lot, goal, told))
            self.check_paper(case, ("force", rows[::-1]), True)
            self.check_paper(case, ("force", ()), False)

    def test_other_ranks(self):
        for case in self.some("force", 12):
            house, stand, lot, goal = case
            rows = power_paper(*case)[1]
            for at, (here, rank, chosen) in enumerate(rows):
                for other in (0, 1, rank - 1, rank + 1, 100000, 100001, True, False, -1, None, str(rank), (rank,)):
                    told = rows[:at] + ((here, other, chosen),) + rows[at + 1:]
                    self.check_paper(case, ("force", told), is_force_paper(house, stand, lot, goal, told))
            higher = tuple((here, rank + 1, chosen) for here, rank, chosen in rows)
            self.check_paper(case, ("force", higher), False)
            raised = tuple((here, rank and rank + 99900, chosen) for here, rank, chosen in rows)
            self.check_paper(case, ("force", raised), is_force_paper(house, stand, lot, goal, raised))

    def test_other_choices(self):
        for case in self.some("force", 16):
            house, stand, lot, goal = case
            rows = power_paper(*case)[1]
            for at, (here, rank, chosen) in enumerate(rows):
                others = [True, False, None, ("pass",), ("move", ("put", (0,))), ("move", ("end",)), ("vote", ()),
                          ("vote", (0,))]
                for other in others:
                    told = rows[:at] + ((here, rank, other),) + rows[at + 1:]
                    self.check_paper(case, ("force", told), is_force_paper(house, stand, lot, goal, told))
                for other in strange_values()[3 + at % 4::4] + [0, 1, ["pass"], ("move", ("amend", True))]:
                    self.check_paper(case, ("force", rows[:at] + ((here, rank, other),) + rows[at + 1:]), False)

    def test_things_that_are_no_triples(self):
        for case in self.some("force", 4):
            rows = power_paper(*case)[1]
            here, rank, chosen = rows[0]
            for value in strange_values() + [(), rows[0][:2], rows[0] + (None,), list(rows[0]), (None, rank, chosen),
                                             (("over", (3,)), 0, None), (("over", (False,)), 0, None)]:
                self.check_paper(case, ("force", rows + (value,)), False)
                self.check_paper(case, ("force", rows[:-1] + (value,)), False)

    def test_stands_left_out_doubled_put_in(self):
        for case in self.some("bar", 25):
            house, stand, lot, goal = case
            stands = power_paper(*case)[1]
            for at, here in enumerate(stands):
                less = stands[:at] + stands[at + 1:]
                self.check_paper(case, ("bar", less), is_bar_paper(house, stand, lot, goal, less))
                self.check_paper(case, ("bar", stands + (here,)), False)
                self.check_paper(case, ("bar", stands + (OtherTuple(here),)), False)
            web = web_of(house, stand)
            for here in [each for each in web if each not in stands][:9] + [first_stand(house, (0,), 0)]:
                told = stands + (here,)
                self.check_paper(case, ("bar", told), is_bar_paper(house, stand, lot, goal, told))
            for value in strange_values() + [(), list(stands[0]), ("over",), ("over", (3,)), ("over", (False,))]:
                self.check_paper(case, ("bar", stands + (value,)), False)
            self.check_paper(case, ("bar", stands[::-1]), True)
            self.check_paper(case, ("bar", ()), False)

    def test_over_with_another_text(self):
        house = SMALL["no limit"]
        case = (house, ("over", ()), (0,), ((0,),))
        self.check_paper(case, ("force", ((("over", ()), 0, None),)), False)
        self.check_paper(case, ("force", ((("over", ()), 1, None),)), False)
        self.check_paper(case, ("bar", (("over", ()),)), True)
        self.check_paper(case, ("bar", (("over", ()), ("over", (0,)))), False)
        case = (house, ("over", (0,)), (), ((0,),))
        self.check_paper(case, ("force", ((("over", (0,)), 0, None),)), True)
        self.check_paper(case, ("force", ((("over", (0,)), 0, False),)), False)
        self.check_paper(case, ("force", ((("over", (0,)), False, None),)), False)

    def test_stands_of_the_house_that_are_not_in_the_web(self):
        house = SMALL["no limit"]
        other = ("floor", (), (0,), (), False, 0, 0, None)
        case = (house, first_stand(house), (0,), ((),))
        rows = power_paper(*case)[1] + ((other, 9, ("pass",)),)
        self.check_paper(case, ("force", rows), True)
        self.check_paper(case, ("force", rows[:-1] + ((other, 9, ("move", ("put", (0,)))),)), False)
        case = (house, first_stand(house), (), ((), (0,)))
        stands = power_paper(*case)[1]
        self.check_paper(case, ("bar", stands + (other,)), False)
        more = tuple(here[:2] + ((0,),) + here[3:] for here in stands if here[0] == "floor")
        self.check_paper(case, ("bar", stands + more), True)

    def test_forms(self):
        wrong = strange_values() + [(), ("force",), ("bar", (), ()), ["bar", ()], ("Force", ()), ((), "bar"),
                                    ("row", ())]
        wrong += [(value, ()) for value in strange_values()]
        wrong += [(word, value) for word in ("force", "bar") for value in strange_values() + ["bar", [()]]]
        house = SMALL["no limit"]
        for paper in wrong:
            check_refused(self, BadPaper, {"word": "form"}, check_power, house, ("over", ()), (), (), paper)
            check_refused(self, BadPaper, {"word": "form"}, check_power, GREAT, first_stand(GREAT), (), (), paper)

    def test_no_web_is_gone_through(self):
        great = first_stand(GREAT)
        waiting = tuple(great[:5] + (at, at, 9) for at in range(3)) + (("over", ()),)
        case = (GREAT, great, (), ((0,),))
        self.check_paper(case, ("bar", waiting), True)
        self.check_paper(case, ("bar", waiting[:-1]), False)
        rows = tuple((here, 3 - at, ("pass",) if at < 3 else None) for at, here in enumerate(waiting))
        self.check_paper((GREAT, great, (0, 1, 2), ((),)), ("force", rows), True)
        self.check_paper((GREAT, great, (0, 1), ((),)), ("force", rows), False)


class LedTest(unittest.TestCase):

    def is_led(self, house, stand, lot, goal, row, way):
        """Whether a row is led, by the words."""
        numbers = force_numbers(house, stand, lot, goal)
        for here, act in zip(way, row):
            chosen = choice(house, here, lot, numbers) if stand in numbers else None
            if act[0] == "vote" and chosen is not None and not all((each in act[1]) == chosen for each in lot):
                return False
            if act[0] != "vote" and chosen is not None and act != chosen:
                return False
        return True

    def test_all_rows_of_few_acts(self):
        for name, most in ROW_HOUSES.items():
            house = SMALL[name]
            for stand in starts(house)[::5] + [odd_stand(house)]:
                rows = all_rows(graph(house, stand), stand, most - 1)
                for lot in lots(len(house[0])):
                    for goal in some_goals(house)[1:]:
                        for row, way in rows[::max(1, len(rows) // 40)]:
                            told = self.is_led(house, stand, lot, goal, row, way)
                            self.assertIs(is_led(house, stand, lot, goal, row), told)

    def test_votes_of_all_of_the_lot_or_none(self):
        house = ((1, 1, 1), 1, book(put=(1, HALF), end=(2, (2, 3, False))), (1, 2, 0), 0)
        stand = ("floor", (), None, (("put", (0,)),), False, 0, 3, 0)
        for lot, goal, chosen in (((0, 1), ((0,),), True), ((0, 1), ((),), False), ((0,), ((0,),), None)):
            for yes in lots(3):
                both = set(yes) & set(lot)
                told = chosen is None or both == (set(lot) if chosen else set())
                self.assertIs(is_led(house, stand, lot, goal, (("vote", yes),)), told)

    def test_ranks_fall_along_led_rows(self):
        for case in cases([SIDED, SMALL["two members"], SMALL["no limit"]], 5):
            house, stand, lot, goal = case
            numbers = force_numbers(*case)
            if stand in numbers:
                row = led_row(*case, tuple(range(5, 65)))
                self.assertLessEqual(len(row), numbers[stand])
                here = stand
                for act in row:
                    there = after(house, here, act)
                    self.assertLess(numbers[there], numbers[here])
                    here = there
                self.assertEqual((here[0], here[1] in goal), ("over", True))
                self.assertIs(is_led(*case, row), True)

    def drawn(self, house, stand, lot, goal, draws):
        """The row that draws tell, by the words."""
        numbers = force_numbers(house, stand, lot, goal)
        row, here = (), stand
        for draw in draws:
            if here[0] == "over":
                break
            chosen = choice(house, here, lot, numbers) if stand in numbers else None
            if chosen is None:
                act = acts(house, here)[draw % len(acts(house, here))]
            elif chosen is True or chosen is False:
                others = [each for each in range(len(house[0])) if each not in lot]
                yes = [each for place, each in enumerate(others) if bin(draw)[2:][::-1][place:place + 1] == "1"]
                act = ("vote", tuple(sorted(yes + (list(lot) if chosen else []))))
            else:
                act = chosen
            row, here = row + (act,), after(house, here, act)
        return row

    def test_rows_by_draws(self):
        draws = [(), (0,) * 60, (10 ** 999,) * 60, tuple(range(60)), tuple(2 ** at for at in range(60)),
                 tuple(7 ** at for at in range(11)), (3, 1, 4, 1, 5, 9, 2, 6, 5, 3, 5, 8, 9, 7, 9, 3)]
        for case in cases(HOUSES + [SIDED], 17):
            for each in draws:
                row = led_row(*case, each)
                self.assertEqual(row, self.drawn(*case, each))
                self.assertIs(is_led(*case, row), True)

    def test_draws(self):
        house = SMALL["no limit"]
        stand = first_stand(house)
        self.assertEqual(len(led_row(house, stand, (), (), (0,) * 60)), 60)
        self.assertEqual(led_row(house, ("over", ()), (), (), (1, 2, 3)), ())
        self.assertEqual(led_row(house, stand, (), (), (2, 5, 5)), (("pass",),))
        for draws in strange_values() + [(0,) * 61, [0], 0, "0"]:
            check_refused(self, BadNumber, {"value": None}, led_row, house, stand, (), (), draws)
            check_refused(self, BadNumber, {"value": None}, led_row, GREAT, first_stand(GREAT), (), (), draws)
        for value in strange_values()[:-1] + [-1, (0,), "1"]:
            check_refused(self, BadNumber, {"value": 0}, led_row, house, stand, (), (), (value, value))
            check_refused(self, BadNumber, {"value": 59}, led_row, house, stand, (), (), (0,) * 59 + (value,))

    def test_rows_that_are_none(self):
        house = SMALL["no limit"]
        stand = first_stand(house)
        for row, place in ((None, None), ((None,), 0), ((("pass",), ("pass",)), 1), ([], None)):
            check_refused(self, BadRow, {"place": place}, is_led, house, stand, (), (), row)
        check_refused(self, BadRow, {"place": 3}, is_led, GREAT, first_stand(GREAT), (), (), (("pass",),) * 4)


class TooGreatTest(unittest.TestCase):

    def calls(self, stand):
        """Each function that goes through the web, with what stands behind the goal."""
        return [(plan_of, ()), (choice_at, (stand,)), (power_paper, ()), (is_led, ((),)), (led_row, ((),))]

    def test_webs(self):
        for house, stand in ((GREAT, first_stand(GREAT)), (EDGE_HOUSE, BEYOND_EDGE)):
            for function, rest in self.calls(stand):
                check_refused(self, TooGreat, {"most": 3000}, function, house, stand, (0,), ((),), *rest)
        case = (EDGE_HOUSE, ON_EDGE, (0, 1), ((0,),))
        self.assertEqual(check_power(*case, power_paper(*case)), "force")
        self.assertIs(is_led(*case, led_row(*case, (1,) * 60)), True)

    def test_behind_the_other_refusals(self):
        great = first_stand(GREAT)
        for function, rest in self.calls(None) + [(check_power, (None,))]:
            check_refused(self, BadHouse, {"place": None}, function, None, None, None, None, *rest)
            check_refused(self, BadStand, {"place": "left"}, function, GREAT, great[:7] + (10,), None, None, *rest)
            check_refused(self, BadLot, {"number": 1}, function, GREAT, great, (0, 0), None, *rest)
            check_refused(self, BadGoal, {"number": None}, function, GREAT, great, (0,), None, *rest)


if __name__ == "__main__":
    unittest.main()

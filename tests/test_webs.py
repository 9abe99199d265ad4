"""floorpowers/webs.py: the turn of webs, least rows, rows compared, papers of both words, and webs too great."""

import unittest

from floorpowers.acts import acts_at, done
from floorpowers.errors import BadHouse, BadPaper, BadRow, BadStand, TooGreat
from floorpowers.webs import check_web, row_to, rows_compared, steps_of, web_of, web_paper
from helpers import check_refused, strange_values
from sittings import (BEYOND_EDGE, EDGE_HOUSE, GREAT, ON_EDGE, SMALL, acts, after, all_rows, first_stand, graph,
                      least_rows, may)
from test_acts import BARE
from test_stands import HOUSE, STAND

# Houses of which all rows up to some acts can be gone through.
ROW_HOUSES = {"one member": 6, "no limit": 6, "two members": 5, "each can bring it up": 5, "no limit, lay and take": 6}


def starts(house):
    """The beginnings, and some other stands that come."""
    stands = sorted(graph(house, first_stand(house)), key=repr)
    begin = [first_stand(house, text, member) for text in ((), (0,)) for member in range(len(house[0]))]
    return begin + stands[::max(1, len(stands) // 5)] + [("over", (0,))]


def odd_stand(house):
    """A stand of a house that can't come from its beginnings: a put without clauses lies upon a table."""
    left = None if house[4] is None else house[4]
    return ("floor", (), (0,), (("put", ()),), True, 0, 0, left)


class TurnTest(unittest.TestCase):

    def test_told_out(self):
        house = SMALL["no limit"]
        web = web_of(house, first_stand(house))
        begin = ("floor", (), None, (), False, 0, 0, None)
        self.assertEqual(web[:5], (begin, begin[:3] + ((("end",),),) + begin[4:],
                                   begin[:3] + ((("put", (0,)),),) + begin[4:],
                                   ("over", ()), begin[:3] + ((("end",),), False, 0, 1, None)))
        self.assertEqual(len(web), 16)
        self.assertEqual(row_to(house, begin, ("over", (0,))),
                         (("move", ("put", (0,))), ("pass",), ("vote", (0,)), ("pass",)))
        self.assertEqual(web_of(house, ("over", (0,))), (("over", (0,)),))

    def test_by_least_rows_worked_out_apart(self):
        for house in SMALL.values():
            for stand in starts(house) + [odd_stand(house)]:
                arrows = graph(house, stand)
                rows = least_rows(arrows, stand)
                web = web_of(house, stand)
                self.assertEqual(list(web), sorted(rows, key=lambda each: (len(rows[each]), rows[each])))
                self.assertEqual(set(web), set(arrows))
                for goal in web[:4] + web[4:-4:max(1, len(web) // 12)] + web[-4:]:
                    self.assertEqual(row_to(house, stand, goal), rows[goal])

    def test_by_all_rows_of_few_acts(self):
        for name, most in ROW_HOUSES.items():
            house = SMALL[name]
            for stand in starts(house)[:3]:
                rows = {}
                for row, way in all_rows(graph(house, stand), stand, most):
                    rows[way[-1]] = min(rows.get(way[-1], (len(row), row)), (len(row), row))
                web = web_of(house, stand)
                self.assertEqual(list(web[:len(rows)]), sorted(rows, key=rows.get))
                self.assertEqual([row_to(house, stand, goal) for goal in rows], [row for _, row in rows.values()])

    def test_what_is_not_in_the_web(self):
        for house in SMALL.values():
            for stand in starts(house):
                arrows = graph(house, stand)
                for goal in starts(house) + [odd_stand(house)]:
                    if goal not in arrows:
                        self.assertIs(row_to(house, stand, goal), None)

    def test_steps(self):
        for house in SMALL.values():
            for stand, told in graph(house, first_stand(house)).items():
                self.assertEqual(steps_of(house, stand), tuple(sorted(told.items())))
                steps = tuple((act, done(house, stand, act)) for act in acts_at(house, stand))
                self.assertEqual(steps_of(house, stand), steps)
        self.assertEqual(steps_of(HOUSE, ("over", ())), ())
        self.assertEqual(len(steps_of(GREAT, first_stand(GREAT))), 9)


class ComparedTest(unittest.TestCase):

    def test_all_rows_of_few_acts(self):
        house = SMALL["two members"]
        stand = first_stand(house)
        rows = sorted((row for row, _ in all_rows(graph(house, stand), stand, 4)), key=lambda row: (len(row), row))
        rows = rows[::max(1, len(rows) // 60)]
        for at, row in enumerate(rows):
            for far, other in enumerate(rows):
                self.assertEqual(rows_compared(house, stand, row, other), (at > far) - (at < far))

    def test_told_out(self):
        pass_row, end = (("pass",),), (("move", ("end",)),)
        self.assertEqual(rows_compared(HOUSE, BARE, end, pass_row), -1)
        self.assertEqual(rows_compared(HOUSE, BARE, pass_row, end), 1)
        self.assertEqual(rows_compared(HOUSE, BARE, end * 1, end), 0)
        self.assertEqual(rows_compared(HOUSE, BARE, pass_row, end + pass_row), -1)
        self.assertEqual(rows_compared(HOUSE, BARE, end + pass_row, pass_row), 1)
        self.assertEqual(rows_compared(HOUSE, BARE, (), ()), 0)
        self.assertEqual(rows_compared(GREAT, first_stand(GREAT), (), end), -1)

    def test_refusals(self):
        good = (("pass",),)
        for wrong, place in [(value, None) for value in strange_values()] + [((("vote", ()),), 0), (good + (None,), 1)]:
            check_refused(self, BadRow, {"place": place}, rows_compared, HOUSE, BARE, wrong, (("vote", ()),) * 9)
            check_refused(self, BadRow, {"place": place}, rows_compared, HOUSE, BARE, good, wrong)
        check_refused(self, BadStand, {"place": None}, rows_compared, HOUSE, None, None, None)
        check_refused(self, BadHouse, {"place": None}, rows_compared, None, None, None, None)


class PapersTest(unittest.TestCase):

    def check_fails(self, word, house, stand, goal, paper):
        check_refused(self, BadPaper, {"word": word}, check_web, house, stand, goal, paper)

    def test_papers_hold_by_one_word_each(self):
        for house in SMALL.values():
            for stand in starts(house)[::2]:
                arrows = graph(house, stand)
                web = tuple(sorted(arrows, key=repr))
                for goal in starts(house) + [odd_stand(house)]:
                    paper = web_paper(house, stand, goal)
                    self.assertIs(check_web(house, stand, goal, paper), goal in arrows)
                    self.assertEqual(paper[0], "row" if goal in arrows else "closed")
                    if goal in arrows:
                        self.check_fails("closed", house, stand, goal, ("closed", web))
                    else:
                        self.assertIs(check_web(house, stand, goal, ("closed", web)), False)

    def test_rows_with_one_thing_otherwise(self):
        house = SMALL["two members"]
        stand = first_stand(house)
        for goal, row in least_rows(graph(house, stand), stand).items():
            self.assertIs(check_web(house, stand, goal, ("row", row)), True)
            for at in range(len(row)):
                self.check_fails("row", house, stand, goal, ("row", row[:at]))
                self.check_fails("row", house, stand, goal, ("row", row[:at] + (None,) + row[at + 1:]))
                if not may(house, stand, row[-1]):
                    self.check_fails("row", house, stand, goal, ("row", row[-1:] + row[:-1]))
            self.check_fails("row", house, stand, goal, ("row", row + (("move", ("amend", 0)), ("move", ("amend", 0)))))
        for value in strange_values() + [["pass"], ("Pass",), ("vote", (2,))]:
            self.check_fails("row", house, stand, ("over", ()), ("row", (value,)))
            self.check_fails("row", house, stand, ("over", ()), ("row", (("pass",), ("pass",), value)))

    def test_a_row_that_is_not_the_least_one_holds(self):
        house = SMALL["two members"]
        row = (("pass",), ("move", ("end",)), ("pass",), ("pass",), ("vote", (0, 1)))
        self.assertIs(check_web(house, first_stand(house), ("over", ()), ("row", row)), True)

    def test_closed_ones_with_one_thing_otherwise(self):
        house = SMALL["equal ranks"]
        first = ("floor", (0,), None, (), False, 0, 0, 0)
        told, asked = web_of(house, first), ("over", (1,))
        self.assertEqual(told[-1], ("over", (0,)))
        self.assertIs(check_web(house, first, asked, ("closed", told)), False)
        for at in range(len(told)):
            self.check_fails("closed", house, first, asked, ("closed", told[:at] + told[at + 1:]))
            self.check_fails("closed", house, first, asked, ("closed", told + told[at:at + 1]))
            for value in strange_values() + [list(told[at]), told[at][:-1], ("over", (2,)), asked]:
                self.check_fails("closed", house, first, asked, ("closed", told[:at] + (value,) + told[at + 1:]))
                self.check_fails("closed", house, first, asked, ("closed", told + (value,)))
        self.check_fails("closed", house, first, first, ("closed", told))
        self.check_fails("closed", house, first, asked, ("closed", ()))
        self.check_fails("closed", house, first, asked, ("closed", (("over", ()),)))

    def test_closed_ones_may_have_more_than_the_web(self):
        house = SMALL["equal ranks"]
        first = ("floor", (0,), None, (), False, 0, 0, 0)
        more = web_of(house, first) + (("over", ()), ("over", (0, 1)))
        self.assertIs(check_web(house, first, ("over", (1,)), ("closed", more)), False)
        self.check_fails("closed", house, ("over", ()), ("over", ()), ("closed", ()))
        self.assertIs(check_web(house, ("over", ()), first, ("closed", (("over", ()),))), False)

    def test_each_stand_of_a_web_is_needed(self):
        house = SMALL["two members"]
        stand = first_stand(house)
        web, goal = web_of(house, stand), odd_stand(house)
        self.assertIs(check_web(house, stand, goal, ("closed", web[::-1])), False)
        for at in range(len(web)):
            self.check_fails("closed", house, stand, goal, ("closed", web[:at] + web[at + 1:]))

    def test_true_and_false_in_the_place_of_integers(self):
        house = SMALL["no limit"]
        stand = first_stand(house)
        self.check_fails("closed", house, ("over", (0,)), stand, ("closed", (("over", (False,)),)))
        self.check_fails("row", house, stand, ("over", (0,)),
                         ("row", (("move", ("put", (False,))), ("pass",), ("vote", (0,)), ("pass",))))

    def test_forms(self):
        wrong = strange_values() + [(), ("row",), ("row", (), ()), ["row", ()], ("Row", ()), ("row", []), ("row", None),
                                    ("row", "pass"), ("closed", [BARE]), ("closed", {BARE: True}), ("open", ()),
                                    ((), "row"),
                                    ("shut", ()), ("round", ()), "row", 0]
        wrong += [(value, ()) for value in strange_values()]
        wrong += [(word, value) for value in strange_values() for word in ("row", "closed")]
        for paper in wrong:
            self.check_fails("form", HOUSE, BARE, STAND, paper)
            self.check_fails("form", GREAT, first_stand(GREAT), ("over", ()), paper)


class TooGreatTest(unittest.TestCase):

    def test_bounds(self):
        self.assertEqual(len(graph(EDGE_HOUSE, ON_EDGE)), 3000)
        self.assertEqual(len(graph(EDGE_HOUSE, BEYOND_EDGE)), 3001)
        self.assertEqual(len(web_of(EDGE_HOUSE, ON_EDGE)), 3000)
        self.assertEqual(row_to(EDGE_HOUSE, ON_EDGE, ON_EDGE), ())
        self.assertIs(check_web(EDGE_HOUSE, ON_EDGE, BEYOND_EDGE, web_paper(EDGE_HOUSE, ON_EDGE, BEYOND_EDGE)), False)
        for house, stand in ((EDGE_HOUSE, BEYOND_EDGE), (GREAT, first_stand(GREAT))):
            check_refused(self, TooGreat, {"most": 3000}, web_of, house, stand)
            for function in (row_to, web_paper):
                check_refused(self, TooGreat, {"most": 3000}, function, house, stand, stand)
                check_refused(self, TooGreat, {"most": 3000}, function, house, stand, ("over", ()))

    def test_behind_the_other_refusals(self):
        stand = first_stand(GREAT)
        for function in (row_to, web_paper):
            check_refused(self, BadStand, {"place": None}, function, GREAT, stand, None)
            check_refused(self, BadStand, {"place": "turn"}, function, GREAT, stand[:5] + (3, 0, 9), None)
            check_refused(self, BadStand, {"place": "left"}, function, GREAT, stand, stand[:7] + (None,))
            check_refused(self, BadHouse, {"place": "limit"}, function, GREAT[:4] + (10,), stand, None)
        check_refused(self, BadStand, {"place": "left"}, web_of, GREAT, stand[:7] + (10,))
        check_refused(self, BadHouse, {"place": None}, web_of, None, stand)

    def test_where_no_web_is_gone_through(self):
        stand = first_stand(GREAT)
        row = (("pass",),) * 3
        self.assertEqual(steps_of(GREAT, stand), tuple((act, after(GREAT, stand, act)) for act in acts(GREAT, stand)))
        self.assertEqual(rows_compared(GREAT, stand, row, ()), 1)
        self.assertIs(check_web(GREAT, stand, ("over", ()), ("row", row)), True)
        check_refused(self, BadPaper, {"word": "row"}, check_web, GREAT, stand, ("over", ()), ("row", row[:2]))
        check_refused(self, BadPaper, {"word": "closed"}, check_web, GREAT, stand, ("over", ()), ("closed", (stand,)))
        great = graph(EDGE_HOUSE, BEYOND_EDGE)
        self.assertIs(check_web(EDGE_HOUSE, BEYOND_EDGE, first_stand(EDGE_HOUSE), ("closed", tuple(great))), False)


if __name__ == "__main__":
    unittest.main()

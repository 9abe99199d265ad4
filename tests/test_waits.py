"""floorpowers/waits.py: waits of all stands, good rows, and papers on whether a member comes to a kind or is kept."""

import unittest

from floorpowers.errors import BadHouse, BadLot, BadMember, BadName, BadPaper, BadStand, TooGreat
from floorpowers.waits import check_wait, wait_of, wait_paper, waiting_row, waits_of, worst_wait
from floorpowers.webs import web_of
from helpers import OtherTuple, check_refused, strange_values
from models import is_comes_paper, is_kept_paper, waits
from sittings import (BEYOND_EDGE, EDGE_HOUSE, FULL, GREAT, HALF, KINDS, LEAST_HALF, ON_EDGE, SMALL, acts, after, book,
                      first_stand, graph, lots)
from test_powers import MORE
from test_webs import odd_stand, starts

HOUSES = [house for name, house in SMALL.items() if name != "five members"] + list(MORE.values())
NEVER = SMALL["one who never has the turn"]


def cases(houses, every):
    """Houses, stands, lots, members and kinds, some of all."""
    told = []
    for house in houses:
        for stand in [first_stand(house), odd_stand(house)] + starts(house)[-4::3]:
            for lot in lots(len(house[0])):
                for member in [each for each in range(len(house[0])) if each not in lot]:
                    told += [(house, stand, lot, member, kind) for kind in [None] + [rule[0] for rule in house[2]]]
    return told[::every]


class WaitsTest(unittest.TestCase):

    def test_all_stands(self):
        kept = come = 0
        for case in cases(HOUSES, 3):
            told = waits(*case)
            web = web_of(case[0], case[1])
            self.assertEqual(waits_of(*case), tuple(told.get(here) for here in web))
            self.assertEqual(wait_of(*case), told.get(case[1]))
            kept += case[1] not in told
            come += told.get(case[1], 0) > 1
        self.assertTrue(kept > 100 and come > 50)

    def test_worst_waits(self):
        for house in HOUSES:
            for stand in [first_stand(house)] + starts(house)[-3::2]:
                for member in range(len(house[0])):
                    for kind in [None] + [rule[0] for rule in house[2]]:
                        others = tuple(each for each in range(len(house[0])) if each != member)
                        told = waits(house, stand, others, member, kind).get(stand)
                        self.assertEqual(worst_wait(house, stand, member, kind), told)

    def test_of_no_kind_at_most_the_members(self):
        for house, stand, lot, member, kind in cases(HOUSES, 1):
            if kind is None:
                wait = wait_of(house, stand, lot, member, None)
                self.assertTrue(wait is None or wait <= len(house[0]))

    def test_what_a_lot_keeps_each_greater_one_keeps(self):
        for house, stand, lot, member, kind in cases(HOUSES[::3], 2):
            if wait_of(house, stand, lot, member, kind) is None:
                for more in lots(len(house[0])):
                    if set(lot) <= set(more) and member not in more:
                        self.assertIs(wait_of(house, stand, more, member, kind), None)

    def test_told_out(self):
        house = ((2, 1, 1), 1, FULL, (1, 2, 0), 2)
        begin = first_stand(house)
        self.assertEqual([wait_of(house, begin, (), member, None) for member in range(3)], [0, 1, 2])
        self.assertEqual(wait_of(house, begin, (), 2, "put"), 2)
        self.assertEqual(wait_of(house, begin, (0,), 1, "put"), None)
        self.assertIs(wait_of(house, begin, (1,), 0, "take"), None)
        self.assertEqual(wait_of(house, begin, (), 1, "amend"), 1)
        self.assertIs(wait_of(house, begin, (0,), 1, "amend"), None)
        self.assertIs(wait_of(house, ("over", ()), (), 0, None), None)
        self.assertIs(wait_of(NEVER, first_stand(NEVER), (), 2, None), None)
        self.assertEqual(waits_of(house, ("over", ()), (), 0, "put"), (None,))
        alone = SMALL["one member"]
        self.assertEqual(worst_wait(alone, first_stand(alone), 0, "amend"), 1)

    def test_questions_of_all_sides(self):
        house = ((1, 1, 1), 1, book(put=(1, HALF), lay=(3, (1, 3, False)), take=(1, HALF), end=(4, (1, 1, False))),
                 (1, 2, 0), 2)
        end = ("floor", (), None, (("put", (0,)), ("end",)), False, 0, 3, 1)
        lay = end[:3] + ((("put", (0,)), ("lay",)),) + end[4:]
        for stand, lot, member in ((end, (1,), 0), (end, (1, 2), 0), (lay, (1,), 0), (lay, (1, 2), 0), (end, (), 2)):
            for kind in (None, "put", "lay", "take", "end"):
                self.assertEqual(wait_of(house, stand, lot, member, kind),
                                 waits(house, stand, lot, member, kind).get(stand))
        self.assertEqual(wait_of(house, end, (1, 2), 0, "lay"), 1)
        self.assertEqual(wait_of(house, lay, (1, 2), 0, "take"), 1)


class RowsTest(unittest.TestCase):

    def test_each_act_the_first_that_is_good(self):
        long_rows = 0
        for case in cases(HOUSES, 2):
            house, stand, lot, member, kind = case
            told = waits(*case)
            row, here = waiting_row(*case), stand
            if stand not in told:
                self.assertIs(row, None)
                continue
            self.assertEqual(len(row), told[stand])
            for act in row:
                good = [each for each in acts(house, here)
                        if told.get(after(house, here, each)) == told[here] - 1]
                self.assertEqual(act, good[0])
                here = after(house, here, act)
            self.assertEqual(told[here], 0)
            long_rows += len(row) > 4
        self.assertGreater(long_rows, 20)

    def test_told_out(self):
        house = ((2, 1, 1), 1, FULL, (1, 2, 0), 2)
        begin = first_stand(house)
        self.assertEqual(waiting_row(house, begin, (), 2, None), (("move", ("end",)), ("pass",)))
        self.assertEqual(waiting_row(house, begin, (), 1, "amend"), (("move", ("put", (0,))),))
        self.assertEqual(waiting_row(house, begin, (), 0, None), ())
        self.assertIs(waiting_row(house, begin, (0,), 1, "amend"), None)


class PapersTest(unittest.TestCase):

    def check_paper(self, case, paper, does_hold):
        if does_hold:
            self.assertEqual(check_wait(*case, paper), paper[0])
        else:
            check_refused(self, BadPaper, {"word": paper[0]}, check_wait, *case, paper)

    def test_told_ones(self):
        for case in cases(HOUSES, 5):
            paper = wait_paper(*case)
            told = waits(*case)
            self.assertEqual(paper[0], "comes" if case[1] in told else "kept")
            self.check_paper(case, paper, True)
            self.check_paper(case, ("comes", tuple(told.items())), case[1] in told)
            kept = tuple(here for here in graph(case[0], case[1]) if here not in told)
            self.check_paper(case, ("kept", kept), case[1] not in told)
            whole = tuple(graph(case[0], case[1]))
            self.check_paper(case, ("kept", whole), 0 not in told.values())

    def some(self, word, most):
        """Cases with not too great papers of a word."""
        told = [case for case in cases(HOUSES, 1) if wait_paper(*case)[0] == word]
        return [case for case in told[::max(1, len(told) // most)] if 1 < len(wait_paper(*case)[1]) < 70]

    def test_pairs_with_one_thing_otherwise(self):
        for case in self.some("comes", 60):
            pairs = wait_paper(*case)[1]
            self.check_paper(case, ("comes", pairs[::-1]), True)
            self.check_paper(case, ("comes", ()), False)
            for at, (here, number) in enumerate(pairs):
                less = pairs[:at] + pairs[at + 1:]
                self.check_paper(case, ("comes", less), is_comes_paper(case[0], *case[1:], less))
                for other in (0, 1, number - 1, number + 1, 3000):
                    if other >= 0:
                        told = pairs[:at] + ((here, other),) + pairs[at + 1:]
                        self.check_paper(case, ("comes", told), is_comes_paper(case[0], *case[1:], told))
            web = web_of(case[0], case[1])
            for here in [each for each in web if each not in dict(pairs)][:5]:
                for number in (0, 3, 3000):
                    told = pairs + ((here, number),)
                    self.check_paper(case, ("comes", told), is_comes_paper(case[0], *case[1:], told))

    def test_stands_with_one_thing_otherwise(self):
        for case in self.some("kept", 60):
            stands = wait_paper(*case)[1]
            self.check_paper(case, ("kept", stands[::-1]), True)
            self.check_paper(case, ("kept", ()), False)
            for at in range(len(stands)):
                less = stands[:at] + stands[at + 1:]
                self.check_paper(case, ("kept", less), is_kept_paper(case[0], *case[1:], less))
            web = web_of(case[0], case[1])
            for here in [each for each in web if each not in stands][:9]:
                told = stands + (here,)
                self.check_paper(case, ("kept", told), is_kept_paper(case[0], *case[1:], told))

    def check_form(self, case, paper):
        check_refused(self, BadPaper, {"word": "form"}, check_wait, *case, paper)

    def test_things_without_the_form(self):
        for case in self.some("comes", 6) + self.some("kept", 6):
            house, stand = case[:2]
            pairs = tuple(waits(*case).items())
            stands = wait_paper(*case)[1] if wait_paper(*case)[0] == "kept" else web_of(house, stand)[:4]
            outside = [each for each in (("over", (0,)), odd_stand(house), ("floor", (0,), (0,), (), False, 0, 0, 0))
                       if each not in graph(house, stand)]
            wrong = strange_values() + [(), ("over",), ("over", (3,)), ("over", (False,)), list(stand)] + outside
            for value in wrong:
                self.check_form(case, ("kept", stands + (value,)))
                self.check_form(case, ("comes", pairs + (value,)))
                self.check_form(case, ("comes", pairs + ((value, 1),)))
            for number in strange_values() + [-1, 3001, "1", (1,)]:
                self.check_form(case, ("comes", ((stand, number),)))
            for value in ((stand,), (stand, 0, 0), [stand, 0], (0, stand)):
                self.check_form(case, ("comes", (value,)))
            self.check_form(case, ("comes", pairs + pairs[:1] + ((stand, 1),) * (2 - len(pairs[:1]))))
            self.check_form(case, ("comes", ((stand, 0), (stand, 1))))
            self.check_form(case, ("kept", stands + stands[:1]))
            self.check_form(case, ("kept", stands + (OtherTuple(stands[0]),)))

    def test_forms(self):
        wrong = strange_values() + [(), ("kept",), ("kept", (), ()), ["kept", ()], ("Kept", ()), ((), "kept"),
                                    ("force", ()), ("comes", []), ("kept", "")]
        wrong += [(value, ()) for value in strange_values()]
        wrong += [(word, value) for word in ("comes", "kept") for value in strange_values()]
        house = SMALL["no limit"]
        for paper in wrong:
            self.check_form((house, first_stand(house), (), 0, "put"), paper)

    def test_told_out(self):
        house = SMALL["no limit"]
        begin = first_stand(house)
        case = (house, begin, (), 0, "put")
        self.check_paper(case, ("comes", ((begin, 0),)), True)
        self.check_paper(case, ("comes", ((begin, 1),)), False)
        self.check_paper(case, ("comes", ((("over", ()), 0), (begin, 0))), False)
        self.check_paper(case, ("comes", ((("over", ()), 3), (begin, 0))), False)
        self.check_paper(case, ("kept", (begin,)), False)
        self.check_paper(case, ("kept", (("over", ()),)), False)
        self.check_paper((house, ("over", ()), (), 0, None), ("kept", (("over", ()),)), True)


class RefusalsTest(unittest.TestCase):

    def test_members_of_the_lot(self):
        house = NEVER
        begin = first_stand(house)
        for function, rest in self.calls():
            for lot, member in (((0,), 0), ((0, 1, 2), 2), ((1, 2), 1)):
                check_refused(self, BadMember, {"value": member}, function, house, begin, lot, member, 0, *rest)
            for member in strange_values() + [3, -1, (0,)]:
                check_refused(self, BadMember, {"value": member}, function, house, begin, (0, 1), member, 0, *rest)
            for kind in strange_values()[1:] + ["lay", "pass", ("put",)]:
                check_refused(self, BadName, {"name": kind}, function, house, begin, (0, 1), 2, kind, *rest)
        for member in strange_values() + [3, -1, (0,)]:
            check_refused(self, BadMember, {"value": member}, worst_wait, house, begin, member, 0)
        check_refused(self, BadName, {"name": "lay"}, worst_wait, house, begin, 2, "lay")

    def calls(self):
        """Each function with what stands behind the kind."""
        return [(wait_of, ()), (waits_of, ()), (waiting_row, ()), (wait_paper, ()), (check_wait, (None,))]

    def test_too_great(self):
        great = first_stand(GREAT)
        for function, rest in self.calls():
            for kind in (None, "put"):
                check_refused(self, TooGreat, {"most": 3000}, function, GREAT, great, (), 0, kind, *rest)
                check_refused(self, TooGreat, {"most": 3000}, function, EDGE_HOUSE, BEYOND_EDGE, (1,), 0, kind, *rest)
            check_refused(self, BadHouse, {"place": None}, function, None, None, None, None, 0, *rest)
            check_refused(self, BadStand, {"place": "left"}, function, GREAT, great[:7] + (10,), None, None, 0, *rest)
            check_refused(self, BadLot, {"number": None}, function, GREAT, great, None, None, 0, *rest)
            check_refused(self, BadMember, {"value": 1}, function, GREAT, great, (1,), 1, 0, *rest)
            check_refused(self, BadName, {"name": 0}, function, GREAT, great, (1,), 2, 0, *rest)
        check_refused(self, TooGreat, {"most": 3000}, worst_wait, GREAT, great, 0, None)
        check_refused(self, BadMember, {"value": 3}, worst_wait, GREAT, great, 3, 0)
        check_refused(self, BadName, {"name": 0}, worst_wait, GREAT, great, 2, 0)
        for paper in (None, ("kept", ()), ("comes", ())):
            check_refused(self, TooGreat, {"most": 3000}, check_wait, GREAT, great, (), 0, "put", paper)
        case = (EDGE_HOUSE, ON_EDGE, (1,), 0, "put")
        self.assertIn(check_wait(*case, wait_paper(*case)), ("comes", "kept"))


if __name__ == "__main__":
    unittest.main()

"""floorpowers/kept.py: how often members come, keepers, the whole table, and papers on how often."""

import unittest

from floorpowers.errors import BadHouse, BadLot, BadMember, BadName, BadNumber, BadPaper, BadStand, TooGreat
from floorpowers.kept import check_times, does_keep, keepers, kept_table, times_of, times_paper, wanted
from floorpowers.webs import web_of
from helpers import OtherTuple, check_refused, strange_values
from far_models import comings, is_often_paper, is_seldom_paper, times
from models import waits
from sittings import (BEYOND_EDGE, EDGE_HOUSE, FULL, GREAT, HALF, KINDS, ON_EDGE, SMALL, book, first_stand, graph,
                      lots)
from test_waits import HOUSES, NEVER, cases
from test_webs import odd_stand, starts

# With a limit and without, so that members come never, some times, and again and again.
SOME = [SMALL[name] for name in ("two members", "no limit, lay and take", "one who never has the turn",
                                 "each can bring it up", "no limit")]


class TimesTest(unittest.TestCase):

    def test_all_stands(self):
        found = {}
        for case in cases(HOUSES, 29):
            house, stand, lot, member, kind = case
            for here in [stand] + list(graph(house, stand))[::60]:
                told = times(*case, here)
                self.assertEqual(times_of(house, here, lot, member, kind), times(house, here, lot, member, kind))
                self.assertEqual(times(house, here, lot, member, kind), told)
                found[told] = found.get(told, 0) + 1
            self.assertEqual(does_keep(*case), times(*case) == 0)
            self.assertEqual(does_keep(*case), stand not in waits(*case))
        self.assertTrue(min(found[0], found[1], found[2], found[3], found[None]) > 5)

    def test_told_out(self):
        house = ((2, 1, 1), 1, FULL, (1, 2, 0), 2)
        begin = first_stand(house)
        self.assertEqual(times_of(house, begin, (), 0, None), 5)
        self.assertEqual(times_of(house, begin, (), 0, "put"), 2)
        self.assertEqual(times_of(house, begin, (1,), 0, "put"), 1)
        self.assertEqual(times_of(house, begin, (1,), 0, "amend"), 0)
        self.assertTrue(does_keep(house, begin, (1,), 0, "amend"))
        self.assertFalse(does_keep(house, begin, (1,), 0, None))
        free = SMALL["no limit, lay and take"]
        begin = first_stand(free)
        self.assertEqual(times_of(free, begin, (), 0, "put"), 1)
        self.assertIs(times_of(free, begin, (), 1, "put"), None)
        self.assertIs(times_of(free, begin, (), 1, None), None)
        self.assertEqual(times_of(free, begin, (1,), 0, "lay"), 0)
        self.assertEqual(times_of(free, ("over", ()), (), 0, None), 0)
        self.assertEqual(times_of(NEVER, first_stand(NEVER), (), 2, None), 0)


class KeepersTest(unittest.TestCase):

    def test_by_all_lots(self):
        sorts = set()
        for house in HOUSES[::2] + HOUSES[3::4]:
            for stand in [first_stand(house), odd_stand(house)] + starts(house)[-4:-3]:
                many = len(house[0])
                rows = []
                for member in range(many):
                    row = []
                    for kind in [None] + [rule[0] for rule in house[2]]:
                        outside = [lot for lot in lots(many) if member not in lot]
                        keeping = [lot for lot in outside if stand not in waits(house, stand, lot, member, kind)]
                        least = tuple(sorted(lot for lot in keeping if not any(set(o) < set(lot) for o in keeping)))
                        self.assertEqual(keepers(house, stand, member, kind), least)
                        inside = tuple(one for one in range(many) if any(one in lot for lot in least))
                        self.assertEqual(wanted(house, stand, member, kind), inside)
                        row.append(least)
                        sorts.add((len(least), max((len(lot) for lot in least), default=None)))
                    rows.append(tuple(row[1:]))
                self.assertEqual(kept_table(house, stand), tuple(rows))
        self.assertTrue({(0, None), (1, 0), (1, 1), (2, 1), (1, 2)} <= sorts)

    def test_told_out(self):
        house = ((2, 1, 1), 1, FULL, (1, 2, 0), 2)
        begin = first_stand(house)
        self.assertEqual(keepers(house, begin, 0, "put"), ())
        self.assertEqual(wanted(house, begin, 0, "put"), ())
        self.assertEqual(keepers(house, begin, 0, "amend"), ((1,), (2,)))
        self.assertEqual(wanted(house, begin, 0, "amend"), (1, 2))
        self.assertEqual(keepers(house, begin, 0, "take"), ((),))
        self.assertEqual(wanted(house, begin, 0, "take"), ())
        self.assertEqual(keepers(house, begin, 1, None), ())
        self.assertEqual(kept_table(house, ("over", ())), ((((),),) * 6,) * 3)


class PapersTest(unittest.TestCase):

    def check_paper(self, case, many, paper, does_hold):
        if does_hold:
            self.assertEqual(check_times(*case, many, paper), paper[0])
        else:
            check_refused(self, BadPaper, {"word": paper[0]}, check_times, *case, many, paper)

    def test_told_ones(self):
        words = set()
        for case in cases(HOUSES, 41):
            told = times(*case)
            for many in (1, 2, 3, 20, None):
                is_often = told is None or (many is not None and told >= many)
                paper = times_paper(*case, many)
                self.assertEqual(paper[0], "often" if is_often else "seldom")
                self.assertEqual(check_times(*case, many, paper), paper[0])
                words.add((paper[0], many))
                if len(paper[1]) < 300:
                    holds = is_often_paper if is_often else is_seldom_paper
                    self.assertTrue(holds(*case, many, paper[1]))
        self.assertEqual(len(words), 10)

    def some(self, word, many, most):
        """Cases with not too great papers of a word."""
        told = [case for case in cases(SOME, 7) if times_paper(*case, many)[0] == word]
        told = [case for case in told if 1 < len(times_paper(*case, many)[1]) < 60]
        return told[::max(1, len(told) // most)]

    def test_triples_with_one_thing_otherwise(self):
        for many in (1, 2, None):
            cases_told = self.some("often", many, 8)
            self.assertGreater(len(cases_told), 3)
            for case in cases_told:
                triples = times_paper(*case, many)[1]
                self.check_paper(case, many, ("often", triples[::-1]), True)
                self.check_paper(case, many, ("often", ()), False)
                self.check_form(case, many, ("often", triples + triples[-1:]))
                for at, (here, number, count) in enumerate(triples):
                    less = triples[:at] + triples[at + 1:]
                    self.check_paper(case, many, ("often", less), is_often_paper(*case, many, less))
                    for other in (0, 1, count - 1, count + 1, 3000):
                        if other >= 0:
                            told = triples[:at] + ((here, number, other),) + triples[at + 1:]
                            self.check_paper(case, many, ("often", told), is_often_paper(*case, many, told))
                    for other in ((1, 2) if many == 2 else ()):
                        told = triples[:at] + ((here, other, count),) + triples[at + 1:]
                        if len({each[:2] for each in told}) < len(told):
                            self.check_form(case, many, ("often", told))
                        else:
                            self.check_paper(case, many, ("often", told), is_often_paper(*case, many, told))
                known = {each[0] for each in triples}
                for here in [each for each in web_of(case[0], case[1]) if each not in known][:4]:
                    for count in (0, 4):
                        told = triples + ((here, many, count),)
                        self.check_paper(case, many, ("often", told), is_often_paper(*case, many, told))

    def test_pairs_with_one_thing_otherwise(self):
        for many in (1, 3, None):
            cases_told = self.some("seldom", many, 8)
            self.assertGreater(len(cases_told), 3)
            for case in cases_told:
                pairs = times_paper(*case, many)[1]
                self.check_paper(case, many, ("seldom", pairs[::-1]), True)
                self.check_paper(case, many, ("seldom", ()), False)
                self.check_form(case, many, ("seldom", pairs + pairs[:1]))
                for at, (here, number) in enumerate(pairs):
                    less = pairs[:at] + pairs[at + 1:]
                    self.check_paper(case, many, ("seldom", less), is_seldom_paper(*case, many, less))
                    for other in (0, number - 1, number + 1, 3000):
                        if other >= 0:
                            told = pairs[:at] + ((here, other),) + pairs[at + 1:]
                            self.check_paper(case, many, ("seldom", told), is_seldom_paper(*case, many, told))
                known = {each[0] for each in pairs}
                for here in [each for each in web_of(case[0], case[1]) if each not in known][:4]:
                    for number in (0, 3000):
                        told = pairs + ((here, number),)
                        self.check_paper(case, many, ("seldom", told), is_seldom_paper(*case, many, told))

    def test_all_pairs_one_more(self):
        for case in self.some("seldom", 3, 8):
            pairs = tuple((here, number + 1) for here, number in times_paper(*case, 3)[1])
            for many in (1, 2, 3, 20, None):
                self.check_paper(case, many, ("seldom", pairs), is_seldom_paper(*case, many, pairs))

    def check_form(self, case, many, paper):
        check_refused(self, BadPaper, {"word": "form"}, check_times, *case, many, paper)

    def test_things_without_the_form(self):
        for case in self.some("often", 2, 3) + self.some("seldom", 2, 3):
            house, stand = case[:2]
            outside = [each for each in (("over", (0,)), odd_stand(house), ("floor", (0,), (0,), (), False, 0, 0, 0))
                       if each not in graph(house, stand)]
            wrong = strange_values() + [(), ("over",), ("over", (3,)), ("over", (False,)), list(stand)] + outside
            for value in wrong:
                for many in (2, None):
                    self.check_form(case, many, ("often", ((value, many, 1),)))
                    self.check_form(case, many, ("often", (value,)))
                    self.check_form(case, many, ("often", ((stand, many, 1), value)))
                    self.check_form(case, many, ("seldom", ((value, 1),)))
                    self.check_form(case, many, ("seldom", (value,)))
            for number in strange_values() + [-1, 3001, "1", (1,)]:
                self.check_form(case, 2, ("often", ((stand, 2, number),)))
                self.check_form(case, 2, ("seldom", ((stand, number),)))
            for number in strange_values() + [0, 3, -1, (1,)]:
                self.check_form(case, 2, ("often", ((stand, number, 1),)))
            for number in strange_values()[1:] + [0, 1]:
                self.check_form(case, None, ("often", ((stand, number, 1),)))
            for value in ((stand,), (stand, 1), (stand, 1, 0, 0), [stand, 1, 0]):
                self.check_form(case, 2, ("often", (value,)))
            for value in ((stand,), (stand, 1, 0), [stand, 0]):
                self.check_form(case, 2, ("seldom", (value,)))
            self.check_form(case, 2, ("often", ((stand, 2, 0), (OtherTuple(stand), 2, 1))))
            self.check_form(case, None, ("often", ((stand, None, 0), (stand, None, 1))))
            self.check_form(case, 2, ("seldom", ((stand, 0), (OtherTuple(stand), 1))))

    def test_forms(self):
        wrong = strange_values() + [(), ("seldom",), ("seldom", (), ()), ["often", ()], ("Often", ()), ((), "often"),
                                    ("kept", ()), ("often", []), ("seldom", "")]
        wrong += [(value, ()) for value in strange_values()]
        wrong += [(word, value) for word in ("often", "seldom") for value in strange_values()]
        house = SMALL["no limit"]
        for paper in wrong:
            self.check_form((house, first_stand(house), (), 0, "put"), 1, paper)

    def test_told_out(self):
        house = SMALL["no limit"]
        begin = first_stand(house)
        case = (house, begin, (), 0, "put")
        moved = begin[:3] + ((("put", (0,)),), False, 0, 0, None)
        put = moved[:6] + (1, None)
        again = ((begin, None, 0), (moved, None, 2), (put, None, 1))
        self.check_paper(case, None, ("often", again), True)
        self.check_paper(case, None, ("often", again[:2]), False)
        self.check_paper(case, None, ("seldom", ((begin, 5),)), False)
        self.check_paper(case, 1, ("often", ((begin, 1, 0),)), True)
        self.check_paper(case, 2, ("often", ((begin, 2, 0),)), False)
        self.check_paper(case, 2, ("often", ((begin, 1, 0),)), False)
        self.check_paper((house, ("over", ()), (), 0, None), None, ("seldom", ((("over", ()), 0),)), True)
        self.check_paper((house, ("over", ()), (), 0, None), 1, ("seldom", ((("over", ()), 1),)), False)
        self.check_paper((house, ("over", ()), (), 0, None), 1, ("often", ((("over", ()), 1, 1),)), False)


class RefusalsTest(unittest.TestCase):

    def calls(self):
        """Each function of a lot with what stands behind the kind."""
        return [(does_keep, ()), (times_of, ()), (times_paper, (1,)), (check_times, (1, None))]

    def test_members_of_the_lot_and_numbers(self):
        begin = first_stand(NEVER)
        for function, rest in self.calls():
            for lot, member in (((0,), 0), ((0, 1, 2), 2), ((1, 2), 1)):
                check_refused(self, BadMember, {"value": member}, function, NEVER, begin, lot, member, 0, *rest)
            check_refused(self, BadName, {"name": "lay"}, function, NEVER, begin, (0,), 1, "lay", *rest)
        for many in strange_values()[1:] + [0, -1, 21, (), "1", (1,)]:
            check_refused(self, BadNumber, {"value": many}, times_paper, NEVER, begin, (), 0, None, many)
            check_refused(self, BadNumber, {"value": many}, check_times, NEVER, begin, (), 0, None, many, None)
        for many in (1, 20, None):
            self.assertIn(times_paper(NEVER, begin, (), 0, None, many)[0], ("often", "seldom"))

    def test_too_great(self):
        great = first_stand(GREAT)
        for function, rest in self.calls():
            for kind in (None, "put"):
                check_refused(self, TooGreat, {"most": 3000}, function, GREAT, great, (), 0, kind, *rest)
                check_refused(self, TooGreat, {"most": 3000}, function, EDGE_HOUSE, BEYOND_EDGE, (1,), 0, kind, *rest)
            check_refused(self, BadHouse, {"place": None}, function, None, None, None, None, 0, *rest)
            check_refused(self, BadStand, {"place": "left"}, function, GREAT, great[:7] + (10,), None, None, 0, *rest)
            check_refused(self, BadLot, {"number": None}, function, GREAT, great, None, None, 0, *rest)
            check_refused(self, BadMember, {"value": 1}, function, GREAT, great, (1,), 1, 0, *rest)
            check_refused(self, BadName, {"name": 0}, function, GREAT, great, (1,), 2, 0, *rest)
        for function, rest in ((times_paper, ()), (check_times, (None,))):
            check_refused(self, BadNumber, {"value": 0}, function, GREAT, great, (1,), 2, None, 0, *rest)
        for function in (keepers, wanted):
            check_refused(self, TooGreat, {"most": 3000}, function, GREAT, great, 0, None)
            check_refused(self, BadMember, {"value": 3}, function, GREAT, great, 3, 0)
            check_refused(self, BadName, {"name": 0}, function, GREAT, great, 2, 0)
        check_refused(self, TooGreat, {"most": 3000}, kept_table, GREAT, great)
        check_refused(self, TooGreat, {"most": 3000}, kept_table, EDGE_HOUSE, BEYOND_EDGE)
        self.assertEqual(len(kept_table(EDGE_HOUSE, ON_EDGE)), 3)
        for paper in (None, ("often", ()), ("seldom", ())):
            check_refused(self, TooGreat, {"most": 3000}, check_times, GREAT, great, (), 0, "put", None, paper)


if __name__ == "__main__":
    unittest.main()

"""floorpowers/slipping.py: slips, rows that fit with them, the fewest, which may stand and surely do, papers."""

import unittest
from floorpowers.errors import BadHouse, BadMinutes, BadPaper, BadRow, BadStand, TooGreat
from floorpowers.slipping import (check_slips, fewest_slips, fits_with, may_slips, need_slips, slip_paper,
                                  slipped_row, sure_slips, texts_by_slips)
from floorpowers.fitting import first_fit
from helpers import OtherTuple, check_refused, strange_values
from minutes_models import (ONE_ACT, all_pins, all_slips, does_slip, drawn_minutes, leads, slip_costs, slip_order,
                            slips_leading, told_by, ways_with_slips)
from sittings import (BEYOND_EDGE, EDGE_HOUSE, FORTY_PINS, FULL, GREAT, ON_EDGE, ON_PAIRS, PAIRS_HOUSE, SMALL, after,
                      all_rows, drawn_row, first_stand, graph)
from test_webs import odd_stand, starts

PASS = ("pass",)
GAP = ("gap", 0, None)
PUT = ("move", ("put", (0,)))
HOUSE = ((2, 1, 1), 1, FULL, (1, 2, 0), 2)
BEGIN = first_stand(HOUSE)
SHORT = ("one member", "no limit", "two members", "each can bring it up", "no limit, lay and take")


def way_of(house, stand, row):
    """The stands on the way of a row."""
    way = (stand,)
    for act in row:
        way += (after(house, way[-1], act),)
    return way


def drawn_cases(every=1):
    """Small houses, stands and minutes, drawn and told by rows; some with entries that can't be so."""
    told = []
    for name in SHORT:
        house = SMALL[name]
        for number, stand in enumerate((starts(house) + [odd_stand(house)])[::2]):
            for state in range(5):
                told.append((house, stand, drawn_minutes(house, state, 3000 * state + 11 * number + 1)))
            row = drawn_row(house, stand, 17 * number + 2, 8)
            minutes = told_by(house, stand, row, 2)
            more = minutes[:2] + drawn_minutes(house, 2, number) + minutes[2:]
            told += [(house, stand, minutes), (house, stand, more)]
            told.append((house, stand, minutes[1::2]))
    return told[::every]


class SlipsTest(unittest.TestCase):

    MINUTES = (("act", PASS), ("gap", 0, 3), ("note", "over", True), ("voted", (0,), ()), ("kind", "put"),
               ("one", (PASS,)))

    def test_each_alone(self):
        for word in ("left", "vain", "wrong"):
            for place in range(-1, 8):
                is_one = (word, place) in slip_order(self.MINUTES)
                self.check_slips(((word, place),), () if is_one else (0,))
        tells = [place for place, entry in enumerate(self.MINUTES) if entry[0] in ONE_ACT]
        self.assertEqual([place for word, place in slip_order(self.MINUTES) if word == "wrong"], tells)

    def check_slips(self, slips, fault, minutes=MINUTES):
        if fault == ():
            self.assertIs(need_slips(HOUSE, minutes, slips), slips)
        else:
            check_refused(self, BadMinutes, {"place": fault[0]}, need_slips, HOUSE, minutes, slips)
            check_refused(self, BadMinutes, {"place": fault[0]}, fits_with, HOUSE, BEGIN, minutes, slips, None)

    def test_two_and_three(self):
        order = slip_order(self.MINUTES)
        right = set(all_slips(self.MINUTES, 2))
        for first in order:
            for second in order:
                self.check_slips((first, second), () if (first, second) in right else (1,))
        minutes = self.MINUTES[:2]
        order, right = slip_order(minutes), set(all_slips(minutes, 3))
        for first, second in all_slips(minutes, 2):
            for third in order:
                told = (first, second, third)
                self.check_slips(told, () if told in right else (2,), minutes)

    def test_how_many(self):
        left = ("left", 0)
        self.check_slips((), ())
        self.check_slips((left,) * 100, ())
        self.check_slips((left,) * 101, (None,))
        self.check_slips((None,) * 101, (None,))
        self.check_slips((left,) * 99 + (("vain", 0),), ())
        self.check_slips((left,) * 99 + (("right", 0),), (99,))
        for value in strange_values() + [[], [left], 0, "left"]:
            self.check_slips(value, (None,))
        for value in strange_values() + [(), ("left",), ("left", 0, 0), ["left", 0], (0, "left"), ("Left", 0)]:
            self.check_slips((left, value), (1,))
        for value in strange_values() + ["0", (0,)]:
            for word in ("left", "vain", "wrong"):
                self.check_slips(((word, value),), (0,))
            self.check_slips(((value, 0),), (0,))

    def test_in_turn(self):
        check_refused(self, BadHouse, {"place": None}, need_slips, None, None, None)
        check_refused(self, BadMinutes, {"place": 0}, need_slips, HOUSE, (None,), None)
        check_refused(self, BadHouse, {"place": None}, fits_with, None, None, None, None, None)
        check_refused(self, BadStand, {"place": None}, fits_with, HOUSE, None, None, None, None)
        check_refused(self, BadMinutes, {"place": None}, fits_with, HOUSE, BEGIN, None, (None,), None)
        check_refused(self, BadMinutes, {"place": 0}, fits_with, HOUSE, BEGIN, (), (None,), None)
        for row in strange_values():
            check_refused(self, BadRow, {"place": None}, fits_with, HOUSE, BEGIN, (), (), row)
        check_refused(self, BadRow, {"place": 1}, fits_with, HOUSE, BEGIN, (), (), (PASS, ("vote", ())))
        great = first_stand(GREAT)
        self.assertIs(need_slips(GREAT, (GAP,) * 12, ()), ())
        self.assertTrue(fits_with(GREAT, great, (GAP,) * 12, (("left", 3),), (PASS,)))


class RowsTest(unittest.TestCase):

    def test_rows_and_slips_cut_apart(self):
        fit = missed = 0
        for number, (house, stand, minutes) in enumerate(drawn_cases(7)):
            minutes = minutes[:4]
            rows = all_rows(graph(house, stand), stand, 4)
            for row, way in rows[::max(1, len(rows) // 12)]:
                for many in range(4):
                    told = all_slips(minutes, many)
                    for slips in told[number % 3::max(1, len(told) // 25)]:
                        does = does_slip(minutes, way, row, slips)
                        self.assertIs(fits_with(house, stand, minutes, slips, row), does)
                        fit += does
                        missed += not does
        self.assertTrue(fit > 300 and missed > 300)

    def test_told_out(self):
        minutes = (("act", PUT), ("note", "over", True))
        for slips, row, does in (((), (PUT,), False), ((("vain", 1),), (PUT,), True), ((("vain", 1),), (PASS,), False),
                                 ((("wrong", 0), ("vain", 1)), (PASS,), True), ((("vain", 0),), (), False),
                                 ((("vain", 0), ("left", 1)) + (("left", 1),) * 2, (PASS,) * 3, True),
                                 ((("left", 0), ("vain", 1)), (PASS, PUT), True),
                                 ((("left", 0), ("vain", 1)), (PUT, PASS), False),
                                 ((("vain", 1), ("left", 2)), (PUT, PASS), True),
                                 ((("left", 0), ("vain", 0), ("vain", 1)), (PASS,), True)):
            self.assertIs(fits_with(HOUSE, BEGIN, minutes, slips, row), does, (slips, row))
        gap = (("gap", 2, 3),)
        self.assertTrue(fits_with(HOUSE, BEGIN, gap, (("vain", 0),), ()))
        self.assertFalse(fits_with(HOUSE, BEGIN, gap, (("vain", 0),), (PASS, PASS)))
        self.assertTrue(fits_with(HOUSE, BEGIN, gap, (("left", 0), ("left", 1)), (PASS, PUT, PASS, PASS)))


class FewestTest(unittest.TestCase):

    def test_by_rows_and_slips_gone_through(self):
        seen = set()
        for house, stand, minutes in drawn_cases(3):
            minutes = minutes[:3]
            rows = all_rows(graph(house, stand), stand, 5)[:400]
            for many in range(3):
                fitting = [slips for slips in all_slips(minutes, many)
                           if any(does_slip(minutes, way, row, slips) for row, way in rows)]
                if fitting:
                    self.assertLessEqual(fewest_slips(house, stand, minutes), many)
                    seen.add(many)
                    break
                told = fewest_slips(house, stand, minutes)
                if told == many:
                    self.assertGreater(len(slipped_row(house, stand, minutes)[0]), 5)
        self.assertEqual(seen, {0, 1, 2})

    def test_by_pairs_put_right(self):
        found = {}
        for house, stand, minutes in drawn_cases():
            costs = slip_costs(house, stand, minutes)
            ends = {here: cost for (here, pin), cost in costs.items() if pin == (len(minutes), 0)}
            fewest = min(ends.values())
            self.assertEqual(fewest_slips(house, stand, minutes), fewest)
            self.assertLessEqual(fewest, len(minutes))
            self.assertEqual(fewest == 0, first_fit(house, stand, minutes) is not None)
            row, slips = slipped_row(house, stand, minutes)
            self.assertEqual(len(slips), fewest)
            self.assertTrue(does_slip(minutes, way_of(house, stand, row), row, slips))
            self.assertTrue(fits_with(house, stand, minutes, slips, row))
            texts = {}
            for here, cost in ends.items():
                texts[here[1]] = min(cost, texts.get(here[1], cost))
            self.assertEqual(texts_by_slips(house, stand, minutes), tuple(sorted(texts.items())))
            self.assertEqual(set(texts), {here[1] for here in graph(house, stand)})
            if fewest < 4:
                ways = ways_with_slips(house, stand, minutes, fewest)
                told = may_slips(house, stand, minutes)
                self.assertEqual(told, tuple(slip for slip in slip_order(minutes) if any(slip in w for w in ways)))
                sure = sure_slips(house, stand, minutes)
                self.assertEqual(sure, tuple(slip for slip in slip_order(minutes) if all(slip in w for w in ways)
                                             and ways))
                found[fewest, len(told) > len(sure), len(sure) > 0] = True
        self.assertTrue({(0, False, False), (1, False, True), (1, True, False), (3, True, True)} <= set(found))

    def test_told_out(self):
        minutes = (("act", PUT), ("note", "top", None))
        self.assertEqual(fewest_slips(HOUSE, BEGIN, minutes), 1)
        self.assertEqual(may_slips(HOUSE, BEGIN, minutes), (("vain", 0), ("wrong", 0), ("vain", 1)))
        self.assertEqual(sure_slips(HOUSE, BEGIN, minutes), ())
        self.assertEqual(texts_by_slips(HOUSE, BEGIN, minutes), (((), 1), ((0,), 4)))
        self.assertEqual(sure_slips(HOUSE, BEGIN, (("note", "over", True), ("act", PUT))), (("vain", 0),))
        self.assertEqual(slipped_row(HOUSE, BEGIN, ()), ((), ()))
        self.assertEqual(fewest_slips(HOUSE, BEGIN, (GAP,)), 0)
        self.assertEqual(may_slips(HOUSE, BEGIN, (GAP,)), ())
        self.assertEqual(sure_slips(HOUSE, BEGIN, (GAP,)), ())
        over = ("over", (0,))
        self.assertEqual(sure_slips(HOUSE, over, (("act", PASS),) * 3), (("vain", 0), ("vain", 1), ("vain", 2)))
        self.assertEqual(texts_by_slips(HOUSE, over, ()), (((0,), 0),))


class PapersTest(unittest.TestCase):

    def check_paper(self, case, paper, word):
        if word is None:
            self.assertEqual(check_slips(*case, paper), len(paper[2]))
        else:
            check_refused(self, BadPaper, {"word": word}, check_slips, *case, paper)

    def are_marks(self, case, marks, many):
        """Whether marks hold, by the words."""
        house, stand, minutes = case
        told = {(here, pin): mark for pin, pairs in zip(all_pins(minutes), marks) for here, mark in pairs}
        if told.get((stand, (0, 0))) != 0:
            return False
        for (here, pin), mark in told.items():
            if any(told.get((behind, other), mark + 1) > mark for _, behind, other in leads(house, minutes, here, pin)):
                return False
            if any(told.get((behind, other), mark + 2) > mark + 1
                   for _, _, behind, other in slips_leading(house, minutes, here, pin)):
                return False
        return all(mark >= many for (_, pin), mark in told.items() if pin == (len(minutes), 0))

    def test_told_ones(self):
        counts = set()
        for case in drawn_cases():
            paper = slip_paper(*case)
            self.assertEqual(paper[0], "slips")
            self.assertEqual(check_slips(*case, paper), fewest_slips(*case))
            self.assertEqual(len(paper[3]), len(all_pins(case[2])))
            self.assertTrue(fits_with(*case, paper[2], paper[1]))
            counts.add(len(paper[2]))
        self.assertTrue({0, 1, 2, 3} <= counts)

    def some(self):
        """Cases whose papers aren't too long."""
        return [case for case in drawn_cases(2) if sum(map(len, slip_paper(*case)[3])) < 120][:14]

    def test_marks_with_one_thing_otherwise(self):
        held = set()
        for case in self.some():
            _, row, slips, marks = slip_paper(*case)
            for at, pairs in enumerate(marks):
                for number, (here, mark) in list(enumerate(pairs))[::3]:
                    others = [pairs[:number] + pairs[number + 1:]]
                    others += [pairs[:number] + ((here, mark + more),) + pairs[number + 1:] for more in (-1, 1, 9)
                               if mark + more >= 0]
                    for other in others:
                        told = marks[:at] + (other,) + marks[at + 1:]
                        does_hold = self.are_marks(case, told, len(slips))
                        self.check_paper(case, ("slips", row, slips, told), None if does_hold else "marks")
                        held.add(does_hold)
                extra = [each for each in (("over", (0,)), odd_stand(case[0])) if each not in dict(pairs)]
                for here in extra:
                    for mark in (0, 5, 99):
                        told = marks[:at] + (pairs + ((here, mark),),) + marks[at + 1:]
                        does_hold = self.are_marks(case, told, len(slips))
                        self.check_paper(case, ("slips", row, slips, told), None if does_hold else "marks")
                        held.add(does_hold)
            self.check_paper(case, ("slips", row, slips, tuple(pairs[::-1] for pairs in marks)), None)
            self.check_paper(case, ("slips", row, slips, ((),) * len(marks)), "marks")
        self.assertEqual(held, {True, False})

    def test_rows_and_slips_with_one_thing_otherwise(self):
        words = set()
        for case in self.some():
            _, row, slips, marks = slip_paper(*case)
            house, stand, minutes = case
            others = [slips[:at] + slips[at + 1:] for at in range(len(slips))] + [slips + (("left", len(minutes)),)]
            others += [each for each in all_slips(minutes, len(slips))[:40]] if len(slips) < 4 else []
            for other in others:
                fits = does_slip(minutes, way_of(house, stand, row), row, other)
                word = None if fits and self.are_marks(case, marks, len(other)) else "marks" if fits else "slips"
                self.check_paper(case, ("slips", row, other, marks), word)
                words.add(word)
            for value in strange_values() + [("vote", ())]:
                self.check_paper(case, ("slips", row + (value,) * 2, slips, marks), "slips")
        self.assertTrue({None, "slips"} <= words)
        case = (HOUSE, BEGIN, (("act", PUT),))
        marks = slip_paper(*case)[3]
        self.check_paper(case, ("slips", (PASS,), (("wrong", 0),), marks), "marks")
        self.check_paper(case, ("slips", (PUT,), (("wrong", 0),), marks), "marks")
        self.check_paper(case, ("slips", (PUT,), (), marks), None)
        case = (HOUSE, BEGIN, (GAP,))
        for row in ((("vote", ()),), (PASS, ("vote", ()))):
            self.check_paper(case, ("slips", row, (), slip_paper(*case)[3]), "slips")

    def test_forms(self):
        case = (HOUSE, BEGIN, (("act", PUT), ("gap", 0, 1)))
        _, row, slips, marks = slip_paper(*case)
        wrong = strange_values() + [(), ("slips",), ("slips", row, slips), ("slips", row, slips, marks, ()),
                                    ["slips", row, slips, marks], ("Slips", row, slips, marks)]
        wrong += [(value, row, slips, marks) for value in strange_values()]
        wrong += [("slips", value, slips, marks) for value in strange_values() + [[]]]
        wrong += [("slips", row, value, marks) for value in strange_values() + [
            [], (("left", 3),), (("wrong", 1),), (("vain", 0), ("left", 0)), (("left", 0),) * 101, (None,)]]
        no_marks = strange_values() + [(), marks[:-1], marks + ((),), list(marks)]
        wrong += [("slips", row, slips, value) for value in no_marks]
        for at in range(len(marks)):
            for value in strange_values() + [((BEGIN,),), ((BEGIN, 0, 0),), [], (BEGIN,), ((("over", (3,)), 0),),
                                             ((BEGIN, 0), (BEGIN, 1)), ((BEGIN, 0), (OtherTuple(BEGIN), 0)), (([], 0),),
                                             ((BEGIN, -1),), ((BEGIN, True),), ((BEGIN, None),), ((BEGIN, "0"),)]:
                wrong.append(("slips", row, slips, marks[:at] + (value,) + marks[at + 1:]))
        for paper in wrong:
            self.check_paper(case, paper, "form")
        # Of faults of several sorts the form comes first, then the row, then the marks.
        self.check_paper(case, ("slips", (None,), slips, (None,) * len(marks)), "form")
        self.check_paper(case, ("slips", (None,), slips, ((),) * len(marks)), "slips")


class RefusalsTest(unittest.TestCase):

    def test_in_turn(self):
        great = first_stand(GREAT)
        calls = [(fewest_slips, ()), (slipped_row, ()), (may_slips, ()), (sure_slips, ()), (texts_by_slips, ()),
                 (slip_paper, ()), (check_slips, (None,))]
        for function, rest in calls:
            check_refused(self, TooGreat, {"most": 3000}, function, GREAT, great, (), *rest)
            check_refused(self, TooGreat, {"most": 3000}, function, EDGE_HOUSE, BEYOND_EDGE, (("gap", 0, 5),), *rest)
            check_refused(self, TooGreat, {"most": 20000}, function, EDGE_HOUSE, ON_EDGE, (("gap", 0, 5),), *rest)
            check_refused(self, BadHouse, {"place": None}, function, None, None, None, *rest)
            check_refused(self, BadStand, {"place": None}, function, GREAT, None, None, *rest)
            check_refused(self, BadMinutes, {"place": None}, function, GREAT, great, None, *rest)
            check_refused(self, BadMinutes, {"place": 1}, function, GREAT, great, (GAP, None), *rest)
        self.assertEqual(fewest_slips(EDGE_HOUSE, ON_EDGE, (("gap", 0, 4),)), 0)
        paper = slip_paper(PAIRS_HOUSE, ON_PAIRS, FORTY_PINS)
        self.assertEqual(check_slips(PAIRS_HOUSE, ON_PAIRS, FORTY_PINS, paper), 0)
        self.assertEqual(may_slips(PAIRS_HOUSE, ON_PAIRS, FORTY_PINS), ())


if __name__ == "__main__":
    unittest.main()

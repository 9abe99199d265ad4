"""floorpowers/live.py: live sittings, what is taken back, trials, copies, and what is equal to what."""

import inspect
import operator
import unittest

from floorpowers import live
from floorpowers.errors import BadAct, BadHouse, BadNumber, BadStand, NothingBack, TooGreat
from floorpowers.live import Sitting, under
from helpers import OtherInt, OtherStr, OtherTuple, are_plain, check_refused, strange_values
from models import least_sets
from row_arguments import no_acts, wrong_stands
from sittings import (FULL, HALF, SMALL, acts, after, all_acts, book, drawn, drawn_row, first_stand, is_carried, lots,
                      may)
from test_arguments import wrong_houses
from test_webs import odd_stand

HOUSE = ((2, 1, 1), 1, FULL, (1, 2, 0), 2)
BEGIN = first_stand(HOUSE)
FREE = SMALL["no limit"]
PASS = ("pass",)
PUT = ("move", ("put", (0,)))


class DoTest(unittest.TestCase):

    def check(self, sitting, house, way, row):
        """Check all that a sitting tells of itself."""
        self.assertEqual((sitting.house, sitting.stand, sitting.row), (house, way[-1], row))
        self.assertIs(sitting.is_at_end, way[-1][0] == "over")
        self.assertEqual(len(sitting), len(row))
        told = acts(house, way[-1])
        is_put = bool(told) and told[0][0] == "vote"
        self.assertEqual(sitting.may(), () if is_put else told)
        carrying = [lot for lot in lots(len(house[0])) if is_put and is_carried(house, way[-1][3][-1], lot)]
        self.assertEqual(sitting.carriers(), least_sets(carrying))
        self.assertTrue(are_plain((sitting.stand, sitting.row, sitting.may(), sitting.carriers(), sitting.house)))

    def test_drawn_rows(self):
        for house in SMALL.values():
            for stand in (first_stand(house), odd_stand(house), ("over", (0,))):
                for state in range(4):
                    row = drawn_row(house, stand, 19 * state + 3, 14)
                    sitting, way = Sitting(house, stand), [stand]
                    self.check(sitting, house, way, ())
                    for number, act in enumerate(row):
                        way.append(after(house, way[-1], act))
                        self.assertEqual(sitting.do(act), way[-1])
                        self.check(sitting, house, way, row[:number + 1])
                    state = number = 0
                    while len(way) > 1:
                        many, state = drawn(state, min(3, len(way) - 1))
                        self.assertIs(sitting.undo(many=many + 1), None)
                        way = way[:len(way) - many - 1]
                        self.check(sitting, house, way, row[:len(way) - 1])
                    self.assertEqual(sitting, Sitting(house, stand))

    def test_acts_refused(self):
        for house, stand in ((HOUSE, BEGIN), (HOUSE, ("over", ())), (FREE, first_stand(FREE))):
            sitting = Sitting(house, stand)
            for act in all_acts(house):
                if not may(house, stand, act):
                    check_refused(self, BadAct, {"place": "order"}, sitting.do, act)
                    check_refused(self, BadAct, {"place": "order"}, sitting.do, act=act)
            for value in strange_values() + [("vote", (9,)), ("move", ("put", ())), ["pass"], ("pass", 0)]:
                check_refused(self, BadAct, {"place": None}, sitting.do, value)
            self.assertEqual((len(sitting), sitting.stand), (0, stand))

    def test_made_of_other_kinds_of_values(self):
        act = OtherTuple((OtherStr("move"), OtherTuple((OtherStr("put"), OtherTuple((OtherInt(0),))))))
        sitting = Sitting(OtherTuple(HOUSE), OtherTuple(BEGIN))
        sitting.do(act)
        self.assertTrue(are_plain((sitting.row, sitting.stand, sitting.house)))
        self.assertEqual(sitting.row, (PUT,))

    def test_made(self):
        for wrong, kind, fields in wrong_houses():
            check_refused(self, kind, fields, Sitting, wrong, None)
        house = ((3, 2, 1), 2, book(put=(1, HALF), amend=(3, (2, 3, False)), close=(5, (1, 1, False))), (1, 2, 0), 4)
        for wrong, kind, fields in wrong_stands():
            check_refused(self, kind, fields, Sitting, house, wrong)
        self.assertEqual(Sitting(stand=BEGIN, house=HOUSE), Sitting(HOUSE, BEGIN))
        check_refused(self, BadHouse, {"place": None}, Sitting, stand=None, house=None)
        check_refused(self, BadStand, {"place": None}, Sitting, stand=None, house=HOUSE)
        for act in no_acts():
            check_refused(self, BadAct, {"place": None}, Sitting(house, first_stand(house)).do, act)

    def test_two_hundred_acts(self):
        sitting = Sitting(FREE, first_stand(FREE))
        block = (PUT, PASS, ("vote", ()))
        for act in block * 66 + block[:2]:
            sitting.do(act)
        self.assertEqual(len(sitting), 200)
        before = sitting.stand
        check_refused(self, TooGreat, {"most": 200}, sitting.do, ("vote", ()))
        check_refused(self, BadAct, {"place": "order"}, sitting.do, PASS)
        check_refused(self, BadAct, {"place": None}, sitting.do, None)
        self.assertEqual((len(sitting), sitting.stand), (200, before))
        copied = sitting.copy()
        check_refused(self, TooGreat, {"most": 200}, copied.do, ("vote", (0,)))
        sitting.undo()
        sitting.do(PASS)
        self.assertEqual(sitting, copied)


class UndoTest(unittest.TestCase):

    def test_one_many_too_many(self):
        sitting = Sitting(HOUSE, BEGIN)
        check_refused(self, NothingBack, {}, sitting.undo)
        for act in (PASS, PUT, PASS, PASS):
            sitting.do(act)
        self.assertIs(sitting.undo(), None)
        self.assertEqual(sitting.row, (PASS, PUT, PASS))
        for many in (4, 5, 10 ** 30):
            check_refused(self, NothingBack, {}, sitting.undo, many=many)
        for many in strange_values()[:-1] + [0, -1, "1", (1,)]:
            check_refused(self, BadNumber, {"value": many}, sitting.undo, many=many)
        self.assertEqual(sitting.row, (PASS, PUT, PASS))
        sitting.undo(many=2)
        self.assertEqual(sitting.row, (PASS,))
        sitting.undo(many=1)
        self.assertEqual((sitting.row, sitting.stand), ((), BEGIN))
        with self.assertRaises(TypeError):
            sitting.undo(1)
        told = inspect.signature(Sitting.undo).parameters["many"]
        self.assertEqual((told.kind, told.default), (inspect.Parameter.KEYWORD_ONLY, 1))


class CopiesTest(unittest.TestCase):

    def test_go_on_by_themselves(self):
        sitting = Sitting(HOUSE, BEGIN)
        for act in (PASS, PUT):
            sitting.do(act)
        other = sitting.copy()
        self.assertIs(type(other), Sitting)
        self.assertIsNot(other, sitting)
        self.assertEqual(other, sitting)
        other.do(PASS)
        self.assertEqual((sitting.row, other.row), ((PASS, PUT), (PASS, PUT, PASS)))
        sitting.undo(many=2)
        self.assertEqual((sitting.row, other.row), ((), (PASS, PUT, PASS)))
        other.undo(many=3)
        self.assertEqual(other, sitting)
        check_refused(self, NothingBack, {}, other.undo)


class TrialsTest(unittest.TestCase):

    def start(self):
        sitting = Sitting(HOUSE, BEGIN)
        for act in (PASS, PUT):
            sitting.do(act)
        return sitting

    def check_start(self, sitting):
        self.assertEqual((sitting.row, sitting), ((PASS, PUT), self.start()))
        sitting.undo(many=2)
        check_refused(self, NothingBack, {}, sitting.undo)

    def test_ends_well(self):
        sitting = self.start()
        with sitting.trial() as one:
            self.assertIs(one, sitting)
            one.do(PASS)
            self.assertEqual(sitting.row, (PASS, PUT, PASS))
        self.check_start(sitting)

    def test_ends_by_an_error(self):
        sitting = self.start()
        with self.assertRaises(BadAct):
            with sitting.trial() as one:
                one.do(PASS)
                one.do(("vote", ()))
        self.check_start(sitting)
        sitting = self.start()
        with self.assertRaises(ZeroDivisionError):
            with sitting.trial() as one:
                one.undo()
                raise ZeroDivisionError
        self.check_start(sitting)

    def test_acts_taken_back_that_stood_ahead(self):
        sitting = self.start()
        with sitting.trial() as one:
            one.undo(many=2)
            one.do(("move", ("end",)))
            self.assertEqual(sitting.row, (("move", ("end",)),))
        self.check_start(sitting)

    def test_one_in_another(self):
        sitting = self.start()
        with sitting.trial():
            sitting.do(PASS)
            with sitting.trial() as one:
                one.undo(many=3)
                with one.trial():
                    one.do(PUT)
                self.assertEqual(one.row, ())
            self.assertEqual(sitting.row, (PASS, PUT, PASS))
            sitting.undo()
        self.check_start(sitting)

    def test_what_it_was_when_the_block_began(self):
        sitting = Sitting(HOUSE, BEGIN)
        manager = sitting.trial()
        for act in (PASS, PUT):
            sitting.do(act)
        with manager:
            sitting.do(PASS)
        self.check_start(sitting)

    def test_under(self):
        for function in (under, Sitting(HOUSE, BEGIN).under, live.under):
            sitting = self.start()
            self.assertEqual(function(sitting.trial(), lambda one: (one.do(PASS), one.row)[1]), (PASS, PUT, PASS))
            self.assertEqual(function(manager=sitting.trial(), deed=len), 2)
            self.assertIs(function(deed=lambda one: one, manager=sitting.trial()), sitting)
            with self.assertRaises(BadAct):
                function(sitting.trial(), lambda one: [one.do(PASS), one.do(None)])
            self.check_start(sitting)


class EqualTest(unittest.TestCase):

    def test_alike_by_unlike_ways(self):
        one, other = Sitting(HOUSE, BEGIN), Sitting(HOUSE, BEGIN)
        self.assertTrue(one == other and not one != other)
        one.do(PASS)
        self.assertTrue(one != other and not one == other)
        other.do(PUT)
        self.assertFalse(one == other)
        other.undo()
        other.do(PASS)
        self.assertTrue(one == other and other == one)
        with one.trial():
            one.do(PUT)
            self.assertFalse(one == other)
        self.assertTrue(one == other)
        self.assertFalse(Sitting(HOUSE, one.stand) == one)
        self.assertEqual(Sitting(HOUSE, one.stand).stand, one.stand)
        self.assertFalse(Sitting(HOUSE, one.stand) == Sitting(HOUSE, BEGIN))
        self.assertFalse(Sitting(HOUSE, ("over", ())) == Sitting(HOUSE, ("over", (0,))))
        # Votes that lead to the same stand are unlike acts.
        put = ("floor", (), None, (("put", (0,)),), False, 0, 3, 2)
        one, other = Sitting(HOUSE, put), Sitting(HOUSE, put)
        one.do(("vote", (1,)))
        other.do(("vote", (2,)))
        self.assertTrue(one.stand == other.stand and one != other)
        more = HOUSE[:2] + (book(put=(1, HALF)),) + HOUSE[3:]
        self.assertFalse(Sitting(HOUSE, BEGIN) == Sitting(more, BEGIN))

    def test_other_values(self):
        one = Sitting(HOUSE, BEGIN)
        for value in [None, 0, "", (), [], BEGIN, HOUSE, object(), one.trial(), len, Sitting]:
            self.assertFalse(one == value)
            self.assertTrue(one != value)
            self.assertFalse(value == one)
        for sign in (operator.lt, operator.le, operator.gt, operator.ge, operator.add, operator.sub, operator.mul,
                     operator.and_, operator.or_, operator.xor, operator.mod, operator.floordiv, operator.lshift):
            for value in (one, one.copy(), 1, "a", (), None):
                with self.assertRaises(TypeError):
                    sign(one, value)
                with self.assertRaises(TypeError):
                    sign(value, one)
        for deed in (lambda: one[0], lambda: iter(one), lambda: PASS in one, lambda: -one, lambda: hash(one)):
            with self.assertRaises(TypeError):
                deed()

    def test_methods_in_the_class_itself(self):
        for name in ("do", "may", "carriers", "undo", "copy", "trial", "__len__", "__eq__", "__init__"):
            self.assertTrue(inspect.isfunction(vars(Sitting)[name]), name)
        for name in ("house", "stand", "row", "is_at_end"):
            self.assertIsInstance(vars(Sitting)[name], property)
            with self.assertRaises(AttributeError):
                setattr(Sitting(HOUSE, BEGIN), name, None)
        self.assertEqual(Sitting.__module__, "floorpowers.live")
        self.assertEqual(under.__module__, "floorpowers.live")


if __name__ == "__main__":
    unittest.main()

"""floorpowers/members.py: lots, weights, shares, which lots carry."""

import unittest
from fractions import Fraction

from floorpowers.errors import BadHouse, BadLot, BadShare
from floorpowers.members import (carries, carrying, every_lot, is_lot_within, is_share, need_lot_among, need_share,
                                 need_weights, others_of, weight_of)
from helpers import as_lot, check_refused, family_of_winning, model_lots, strange_values

SHARES = [(part, whole, is_more) for whole in range(1, 10) for part in range(1, whole + 1) for is_more in (False, True)]
WEIGHTS = [(1,), (99,), (1, 1), (2, 1), (1, 99), (1, 1, 1), (2, 1, 1), (3, 2, 1), (5, 3, 4), (1, 1, 1, 1), (4, 3, 2, 1),
           (1, 2, 3, 6), (7, 7, 1, 99), (1, 1, 1, 1, 1), (5, 4, 3, 2, 1), (2, 2, 2, 1, 1), (99, 99, 99, 99, 99)]


def model_carries(weights, share, lot):
    """Whether a lot carries, by fractions."""
    part = Fraction(sum(weights[member] for member in lot), sum(weights))
    bound = Fraction(share[0], share[1])
    return part > bound or part == bound and not share[2]


class LotsTest(unittest.TestCase):

    def test_all_lots_ascend(self):
        self.assertEqual(every_lot(1), ((), (0,)))
        self.assertEqual(every_lot(2), ((), (0,), (0, 1), (1,)))
        self.assertEqual(every_lot(3), ((), (0,), (0, 1), (0, 1, 2), (0, 2), (1,), (1, 2), (2,)))
        for many in range(1, 6):
            self.assertEqual(every_lot(many), tuple(sorted(as_lot(lot) for lot in model_lots(many))))
            self.assertEqual(len(every_lot(many)), 2 ** many)

    def test_needed_lots_are_lots(self):
        for many in range(1, 6):
            for lot in every_lot(5):
                if all(member < many for member in lot):
                    self.assertIs(need_lot_among(many, lot), lot)
                else:
                    first = [number for number, member in enumerate(lot) if member >= many][0]
                    check_refused(self, BadLot, {"number": first}, need_lot_among, many, lot)

    def test_others(self):
        for many in range(1, 6):
            for lot in every_lot(many):
                self.assertEqual(others_of(many, lot), as_lot(set(range(many)) - set(lot)))

    def test_within(self):
        for many in range(1, 6):
            for lot in every_lot(many):
                for far_lot in every_lot(many):
                    self.assertIs(is_lot_within(many, lot, far_lot), set(lot) <= set(far_lot))


class SharesTest(unittest.TestCase):

    def test_all_ninety_are_shares(self):
        self.assertEqual(len(set(SHARES)), 90)
        for share in SHARES:
            self.assertIs(is_share(share), True)
            self.assertIs(need_share(share), share)

    def test_just_these_are(self):
        for part in range(-1, 12):
            for whole in range(-1, 12):
                for is_more in (True, False):
                    share = (part, whole, is_more)
                    self.assertIs(is_share(share), share in SHARES)
                    if share not in SHARES:
                        check_refused(self, BadShare, {"value": share}, need_share, share)

    def test_no_other_value_is(self):
        for value in strange_values() + [(1, 2), (1, 2, 1), (1, 2, 0), (1, 2, None), (True, 2, True), [1, 2, True]]:
            self.assertIs(is_share(value), False)


class WeightsTest(unittest.TestCase):

    def test_bounds(self):
        for weights in WEIGHTS:
            self.assertIs(need_weights(weights), weights)
        for many in range(8):
            weights = (1,) * many
            if 1 <= many <= 5:
                self.assertIs(need_weights(weights), weights)
            else:
                check_refused(self, BadHouse, {"place": "weights"}, need_weights, weights)
        for at in range(5):
            for weight in (0, 100, -1, True, "1", None, [1]):
                weights = (99,) * at + (weight,) + (1,) * (4 - at)
                check_refused(self, BadHouse, {"place": "weights"}, need_weights, weights)

    def test_weight_of_a_lot(self):
        self.assertEqual(weight_of((5, 4, 3), (0, 2)), 8)
        for weights in WEIGHTS:
            self.assertEqual(weight_of(weights, ()), 0)
            for lot in every_lot(len(weights)):
                self.assertEqual(weight_of(weights, lot), sum(weights[member] for member in lot))

    def test_the_lot_is_one_of_as_many_members(self):
        for weights in WEIGHTS:
            many = len(weights)
            check_refused(self, BadLot, {"number": 0}, weight_of, weights, (many,))
            check_refused(self, BadLot, {"number": 1}, carries, weights, (1, 2, True), (0, many))


class CarriesTest(unittest.TestCase):

    def test_at_just_the_bound(self):
        self.assertIs(carries((1, 1), (1, 2, True), (0,)), False)
        self.assertIs(carries((1, 1), (1, 2, False), (0,)), True)
        self.assertIs(carries((2, 1, 3), (2, 3, True), (1, 2)), False)
        self.assertIs(carries((2, 1, 3), (2, 3, False), (1, 2)), True)
        self.assertIs(carries((99, 99, 99), (1, 3, True), (0,)), False)
        self.assertIs(carries((99, 99, 98), (1, 3, True), (0,)), True)
        self.assertIs(carries((98, 99, 99), (1, 3, False), (0,)), False)

    def test_nobody_and_all(self):
        for weights in WEIGHTS:
            everyone = tuple(range(len(weights)))
            for share in SHARES:
                self.assertIs(carries(weights, share, ()), False)
                self.assertIs(carries(weights, share, everyone), share[0] < share[1] or not share[2])

    def test_all_lots_by_all_shares(self):
        for weights in WEIGHTS:
            for share in SHARES:
                for lot in every_lot(len(weights)):
                    self.assertIs(carries(weights, share, lot), model_carries(weights, share, lot))

    def test_the_family_of_those_that_carry(self):
        self.assertEqual(carrying((3, 2, 1), (1, 2, True)), ((0, 1), (0, 2)))
        self.assertEqual(carrying((3, 2, 1), (1, 2, False)), ((0,), (1, 2)))
        self.assertEqual(carrying((3, 2, 1), (1, 1, False)), ((0, 1, 2),))
        self.assertEqual(carrying((3, 2, 1), (1, 1, True)), ())
        for weights in WEIGHTS:
            for share in SHARES:
                lots = [lot for lot in model_lots(len(weights)) if model_carries(weights, share, lot)]
                self.assertEqual(carrying(weights, share), family_of_winning(lots))


if __name__ == "__main__":
    unittest.main()

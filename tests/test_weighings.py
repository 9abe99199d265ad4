"""floorpowers/weighings.py: the least weighings are looked up among all with a small sum."""

import unittest
from itertools import product

from floorpowers.errors import BadFamily, BadHouse, BadPaper, BadShare
from floorpowers.families import is_as_strong
from floorpowers.members import carrying, every_lot
from floorpowers.weighings import (check_weighing, full_weighing, is_weighed, least_weighing, shares_of, weighed_family,
                                   weighing_paper, weights_alike)
from helpers import check_refused, drawn_families, family_of_winning, model_families, model_lots, some_families
from test_members import SHARES, WEIGHTS

# No family of so many members has a least weighing with a greater sum of loads.
MOST_SUMS = {1: 1, 2: 2, 3: 4, 4: 8, 5: 16}


def model_weighed(many, loads, quota):
    """The family of a weighing."""
    return family_of_winning([lot for lot in model_lots(many) if sum(loads[member] for member in lot) >= quota])


def loads_up_to(many, most):
    """All loads with a sum of most at the most."""
    if many == 0:
        return [()]
    return [loads + (load,) for loads in loads_up_to(many - 1, most) for load in range(most - sum(loads) + 1)]


def families_by_quota(many, loads):
    """For each quota the family, told by which lots are in it."""
    weights = [sum(loads[member] for member in lot) for lot in every_lot(many)]
    for quota in range(sum(loads) + 2):
        yield quota, tuple([weight >= quota for weight in weights])


def least_by_marks(many, most):
    """For each family with a weighing of a small sum the least one, in the turn of sums, loads, quotas."""
    found = {}
    for loads in sorted(loads_up_to(many, most), key=lambda loads: (sum(loads), loads)):
        for quota, marks in families_by_quota(many, loads):
            found.setdefault(marks, (loads, quota))
    return found


def marks_of(many, family):
    """Which lots are in a family."""
    return tuple(any(set(least) <= set(lot) for least in family) for lot in every_lot(many))


class WeighedTest(unittest.TestCase):

    def test_family_of_a_weighing(self):
        self.assertEqual(weighed_family(3, ((2, 1, 1), 2)), ((0,), (1, 2)))
        self.assertEqual(weighed_family(3, ((0, 0, 0), 0)), ((),))
        self.assertEqual(weighed_family(3, ((0, 0, 0), 1)), ())
        self.assertEqual(weighed_family(5, ((99,) * 5, 495)), ((0, 1, 2, 3, 4),))
        self.assertEqual(weighed_family(5, ((99,) * 5, 496)), ())
        self.assertEqual(weighed_family(5, ((99,) * 5, 500)), ())
        for many in range(1, 4):
            for loads in product((0, 1, 2, 5, 99), repeat=many):
                for quota in (0, 1, 2, 3, 6, 99, 100, 198, 500):
                    self.assertEqual(weighed_family(many, (loads, quota)), model_weighed(many, loads, quota))

    def test_bounds_of_a_weighing(self):
        for many in range(1, 6):
            for at in range(many):
                for load in (-1, 100, True, None, "1"):
                    wrong = ((1,) * at + (load,) + (1,) * (many - at - 1), 1)
                    check_refused(self, BadPaper, {"word": "weighing"}, weighed_family, many, wrong)
            for quota in (-1, 501, True, None, "1"):
                check_refused(self, BadPaper, {"word": "weighing"}, weighed_family, many, ((1,) * many, quota))
            for wrong in (((1,) * (many + 1), 1), ((1,) * (many - 1), 1)):
                check_refused(self, BadPaper, {"word": "weighing"}, weighed_family, many, wrong)

    def test_weighed_families_of_up_to_four_members(self):
        for many in range(1, 5):
            least = least_by_marks(many, MOST_SUMS[many] + 2)
            for family in model_families(many):
                self.check_family(many, family, least.get(marks_of(many, family)))

    def test_some_of_five_members(self):
        least = least_by_marks(5, MOST_SUMS[5])
        self.assertEqual(len(least), 3287)
        hard = [marks for marks, (loads, _) in least.items() if sum(loads) == 16]
        families = [self.family_of_marks(marks) for marks in list(least)[::20] + hard[::10] + hard[-1:]]
        for family in families + drawn_families(5, 80) + [(), ((),)]:
            self.check_family(5, family, least.get(marks_of(5, family)))

    def family_of_marks(self, marks):
        return family_of_winning([frozenset(lot) for lot, is_in in zip(every_lot(5), marks) if is_in])

    def test_greatest_sums(self):
        for many in range(1, 5):
            least = least_by_marks(many, 10)
            self.assertEqual(max(sum(loads) for loads, _ in least.values()), MOST_SUMS[many])

    def check_family(self, many, family, least):
        pairs = [(one, other) for one in range(many) for other in range(one)]
        compared = all(is_as_strong(many, family, one, other) or is_as_strong(many, family, other, one)
                       for one, other in pairs)
        self.assertIs(is_weighed(many, family), least is not None)
        self.assertIs(compared, least is not None)
        self.assertEqual(least_weighing(many, family), least)
        paper = weighing_paper(many, family)
        if least is None:
            self.assertIsNone(full_weighing(many, family))
            self.assertEqual(paper[0], "swap")
        else:
            full = (tuple(6 * load + 1 for load in least[0]), 6 * least[1])
            self.assertEqual(full_weighing(many, family), full)
            self.assertEqual(weighed_family(many, least), family)
            self.assertEqual(weighed_family(many, full), family)
            self.assertEqual(paper[0], "loads")
        self.assertEqual(check_weighing(many, family, paper), paper[0])

    def test_least_and_full_weighings(self):
        self.assertEqual(least_weighing(3, ()), ((0, 0, 0), 1))
        self.assertEqual(full_weighing(3, ()), ((1, 1, 1), 6))
        self.assertEqual(least_weighing(3, ((),)), ((0, 0, 0), 0))
        self.assertEqual(full_weighing(3, ((),)), ((1, 1, 1), 0))
        self.assertEqual(least_weighing(3, ((0, 1), (0, 2))), ((2, 1, 1), 3))
        self.assertEqual(full_weighing(3, ((0, 1), (0, 2))), ((13, 7, 7), 18))
        self.assertEqual(least_weighing(4, ((0, 1), (2, 3))), None)
        self.assertEqual(full_weighing(4, ((0, 1), (2, 3))), None)


class PapersTest(unittest.TestCase):

    def test_loads(self):
        for many in range(1, 4):
            for family in model_families(many):
                for loads in product(range(4), repeat=many):
                    for quota in range(8):
                        paper = ("loads", loads, quota)
                        if model_weighed(many, loads, quota) == family:
                            self.assertEqual(check_weighing(many, family, paper), "loads")
                        else:
                            check_refused(self, BadPaper, {"word": "loads"}, check_weighing, many, family, paper)

    def test_loads_beyond_the_bounds(self):
        family = ((0, 1),)
        for loads, quota in [((100, 100), 200), ((99, 100), 199), ((1, 1), True), ((True, 1), 2), ([1, 1], 2),
                             ((1, 1, 0), 2), ((1,), 1), ((-1, 3), 2), (None, 2), ((1, 1), None), ((1, 1), "2")]:
            paper = ("loads", loads, quota)
            check_refused(self, BadPaper, {"word": "loads"}, check_weighing, 2, family, paper)
        check_refused(self, BadPaper, {"word": "loads"}, check_weighing, 2, (), ("loads", (1, 1), 501))
        self.assertEqual(check_weighing(2, (), ("loads", (1, 1), 500)), "loads")
        self.assertEqual(check_weighing(2, family, ("loads", (99, 99), 198)), "loads")

    def test_swaps_that_hold_and_all_others(self):
        for family in [((0, 1), (2, 3)), ((0, 2), (1, 3)), ((0, 1), (0, 2), (1, 3)), ((0,), (1, 2)), (), ((),)]:
            held = 0
            for lot, far_lot in product(every_lot(4), repeat=2):
                for one, other in product(range(4), repeat=2):
                    paper = ("swap", lot, far_lot, one, other)
                    if self.does_hold(family, set(lot), set(far_lot), one, other):
                        held += 1
                        self.assertEqual(check_weighing(4, family, paper), "swap")
                    else:
                        check_refused(self, BadPaper, {"word": "swap"}, check_weighing, 4, family, paper)
            self.assertEqual(held > 0, not is_weighed(4, family))

    def does_hold(self, family, lot, far_lot, one, other):
        if one not in lot - far_lot or other not in far_lot - lot:
            return False
        sets = [lot, far_lot, lot - {one} | {other}, far_lot - {other} | {one}]
        return [any(set(least) <= each for least in family) for each in sets] == [True, True, False, False]

    def test_swaps_with_one_thing_otherwise(self):
        family = ((0, 1), (2, 3))
        right = ("swap", (0, 1), (2, 3), 0, 2)
        self.assertEqual(check_weighing(4, family, right), "swap")
        wrong = {1: [[0, 1], (1, 0), (0, 1, 4), (0, 0, 1), None, (True, 1), 0], 2: [[2, 3], (3, 2), (2, 4), 2],
                 3: [4, -1, False, None, (0,), "0"], 4: [4, -1, True, None, (2,), "2"]}
        for at, values in wrong.items():
            for value in values:
                paper = right[:at] + (value,) + right[at + 1:]
                check_refused(self, BadPaper, {"word": "swap"}, check_weighing, 4, family, paper)

    def test_form(self):
        for paper in [None, (), "loads", ("loads",), ("loads", (1,)), ("loads", (1,), 1, 1), ["loads", (1,), 1],
                      ("swap", (0,), (1,), 0), ("swap", (0,), (1,), 0, 1, 2), ("swap", (0,), 1), ("way", (1,), 1),
                      ("loads", (0,), (1,), 0, 1), (b"loads", (1,), 1), ((1,), 1)]:
            check_refused(self, BadPaper, {"word": "form"}, check_weighing, 1, ((0,),), paper)

    def test_a_paper_of_one_word_alone_holds(self):
        for many in range(1, 6):
            for family in some_families(many):
                word = weighing_paper(many, family)[0]
                self.assertEqual(word, "loads" if is_weighed(many, family) else "swap")


class SharesTest(unittest.TestCase):

    def test_shares_of_families(self):
        self.assertEqual(shares_of((1,), ()), tuple((n, n, True) for n in range(1, 10)))
        self.assertEqual(len(shares_of((1,), ((0,),))), 81)
        self.assertEqual(shares_of((1,), ((),)), ())
        for weights in WEIGHTS:
            found = []
            for family in {carrying(weights, share) for share in SHARES} | {((),), ((0,),)}:
                shares = shares_of(weights, family)
                self.assertEqual(shares, tuple(sorted(s for s in SHARES if carrying(weights, s) == family)))
                found += shares
            self.assertEqual(sorted(found), sorted(SHARES))

    def test_family_is_one_of_these_members(self):
        check_refused(self, BadFamily, {"place": 1}, shares_of, (1, 1), ((0,), (2,)))

    def test_weights_alike(self):
        self.assertIs(weights_alike((3, 2, 1), (1, 2, True), (2, 1, 1), (1, 2, True)), True)
        self.assertIs(weights_alike((3, 2, 1), (1, 2, False), (2, 1, 1), (1, 2, False)), True)
        self.assertIs(weights_alike((3, 2, 1), (1, 2, True), (2, 1, 1), (1, 2, False)), False)
        self.assertIs(weights_alike((1, 1), (1, 2, True), (1, 2), (1, 2, True)), False)
        for weights in WEIGHTS:
            for far_weights in WEIGHTS:
                for share, far_share in zip(SHARES[::7], SHARES[3::7]):
                    if len(weights) == len(far_weights):
                        same = carrying(weights, share) == carrying(far_weights, far_share)
                        self.assertIs(weights_alike(weights, share, far_weights, far_share), same)
                    else:
                        check_refused(self, BadHouse, {"place": "weights"}, weights_alike, weights, share,
                                      far_weights, far_share)

    def test_another_number_of_members_comes_ahead_of_the_far_share(self):
        check_refused(self, BadHouse, {"place": "weights"}, weights_alike, (1, 1), (1, 2, True), (1,), None)
        check_refused(self, BadShare, {"value": 7}, weights_alike, (1, 1), 7, (1,), None)
        check_refused(self, BadShare, {"value": None}, weights_alike, (1, 1), (1, 2, True), (1, 2), None)


if __name__ == "__main__":
    unittest.main()

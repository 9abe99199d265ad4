"""floorpowers/votes.py: what a lot can make of a vote, and the stands behind one."""

import unittest

from floorpowers.errors import BadHouse, BadLot, BadName, BadStand
from floorpowers.votes import sides_of, vote_stands
from helpers import check_refused, strange_values
from models import all_shares, is_question, side, vote_ends
from sittings import ALL, GREAT, HALF, LEAST_HALF, NOBODY, SMALL, THIRD, book, first_stand, graph, lots

FULL_BOOK = book(put=(1, HALF), amend=(3, LEAST_HALF), lay=(5, THIRD), take=(0, ALL), close=(6, HALF), end=(9, HALF))


class SidesTest(unittest.TestCase):

    def test_all_lots_and_shares(self):
        found = {}
        for weights in ((1,), (3, 2, 1), (1, 1, 1, 1), (5, 4, 3, 2, 1), (9, 1)):
            for share in all_shares():
                house = (weights, 1, book(put=(0, HALF), close=(1, share)), (0,) * len(weights), None)
                for lot in lots(len(weights)):
                    told = sides_of(house, "close", lot)
                    self.assertEqual(told, side(house, ("close",), lot))
                    found[told] = True
        self.assertEqual(sorted(found), ["decides", "down", "others", "up"])

    def test_told_out(self):
        house = ((2, 1, 1), 1, FULL_BOOK, (1, 2, 0), 3)
        self.assertEqual(sides_of(house, "put", (0,)), "down")
        self.assertEqual(sides_of(house, "amend", (0,)), "up")
        self.assertEqual(sides_of(house, "put", (0, 1)), "decides")
        self.assertEqual(sides_of(house, "put", (2,)), "others")
        self.assertEqual(sides_of(house, "take", ()), "others")
        self.assertEqual(sides_of(house_nobody(), "put", (0, 1)), "down")

    def test_refusals(self):
        house = ((2, 1, 1), 1, book(put=(0, HALF), end=(2, HALF)), (1, 2, 0), 3)
        for name in strange_values() + ["lay", "amend", "vote", ("put",)]:
            check_refused(self, BadName, {"name": name}, sides_of, house, name, None)
        for lot, number in ((None, None), ((3,), 0), ((0, 0), 1), ([0], None), ((True,), 0)):
            check_refused(self, BadLot, {"number": number}, sides_of, house, "put", lot)
        check_refused(self, BadHouse, {"place": None}, sides_of, None, None, None)


def house_nobody():
    """A house in which nobody carries."""
    return ((1, 1), 1, book(put=(0, NOBODY)), (1, 0), 2)


class StandsTest(unittest.TestCase):

    def test_all_questions_of_small_webs(self):
        kinds, nobody = {}, 0
        for house in SMALL.values():
            for stand in graph(house, first_stand(house)):
                if is_question(house, stand):
                    told = vote_stands(house, stand)
                    self.assertEqual(told, vote_ends(house, stand))
                    kinds[stand[3][-1][0]] = True
                    nobody += told[0] is None
                else:
                    check_refused(self, BadStand, {"place": "put"}, vote_stands, house, stand)
        self.assertEqual(len(kinds), 6)
        self.assertGreater(nobody, 9)

    def test_told_out(self):
        house = ((2, 1, 1), 1, FULL_BOOK, (1, 2, 0), 3)
        stand = ("floor", (), (0,), (("take",),), False, 1, 3, 2)
        self.assertEqual(vote_stands(house, stand), (("floor", (), None, (("put", (0,)),), False, 1, 0, 2),
                                                     ("floor", (), (0,), (), False, 1, 0, 2)))
        stand = ("floor", (), None, (("put", ()),), True, 1, 3, 2)
        self.assertEqual(vote_stands(house, stand), (("floor", (), None, (), False, 1, 0, 2),) * 2)
        stand = ("floor", (), None, (("put", (0,)),), False, 0, 2, 2)
        self.assertEqual(vote_stands(house_nobody(), stand), (None, ("floor", (), None, (), False, 0, 0, 2)))

    def test_no_web_is_gone_through(self):
        stand = ("floor", (), None, (("put", (0,)), ("end",)), False, 1, 3, 9)
        self.assertEqual(vote_stands(GREAT, stand)[0], ("over", ()))

    def test_refusals(self):
        house = house_nobody()
        check_refused(self, BadStand, {"place": "put"}, vote_stands, house, ("over", ()))
        check_refused(self, BadStand, {"place": "put"}, vote_stands, house, first_stand(house))
        check_refused(self, BadStand, {"place": "pile"}, vote_stands, house,
                      ("floor", (), None, (("end",),), False, 0, 2, 2))
        check_refused(self, BadHouse, {"place": None}, vote_stands, None, None)


if __name__ == "__main__":
    unittest.main()

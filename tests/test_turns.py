"""floorpowers/turns.py: who has the turn behind whom, the way and the ring, who has the floor and may move what."""

import unittest
from itertools import product

from floorpowers.errors import BadHouse, BadMember, BadName, BadNumber, BadStand
from floorpowers.turns import can_move, kinds_open, turn_after, turns_from, turns_to
from helpers import check_refused, strange_values
from models import is_question, may_member
from sittings import FULL, GREAT, HALF, KINDS, SMALL, book, first_stand, graph
from test_webs import odd_stand

# All NEXT of one, two and three members.
FOLLOWS = [follow for many in (1, 2, 3) for follow in product(range(many), repeat=many)]


def house_by(follow):
    """A house with this NEXT."""
    return ((1,) * len(follow), 1, book(put=(1, HALF)), follow, None)


def turns(follow, member, many):
    """The first turns from a member on."""
    told = [member]
    while len(told) < many:
        told.append(follow[told[-1]])
    return told


class TurnsTest(unittest.TestCase):

    def test_all_follows(self):
        for follow in FOLLOWS:
            house = house_by(follow)
            for member in range(len(follow)):
                told = turns(follow, member, 30)
                self.assertEqual([turn_after(house, member, number) for number in range(30)], told)
                way, ring = turns_from(house, member)
                self.assertEqual(way + ring, tuple(told[:len(way + ring)]))
                self.assertEqual([told.count(each) > 1 for each in way + ring], [False] * len(way) + [True] * len(ring))
                self.assertEqual(len(set(way + ring)), len(way + ring))
                self.assertEqual(set(way + ring), set(told))
                for other in range(len(follow)):
                    self.assertEqual(turns_to(house, member, other), told.index(other) if other in told else None)

    def test_told_out(self):
        house = house_by((1, 2, 1))
        self.assertEqual(turns_from(house, 0), ((0,), (1, 2)))
        self.assertEqual(turns_from(house, 2), ((), (2, 1)))
        self.assertEqual(turns_to(house, 0, 0), 0)
        self.assertEqual(turns_to(house, 0, 2), 2)
        self.assertIs(turns_to(house, 1, 0), None)
        five = ((1,) * 5, 1, book(put=(1, HALF)), (3, 0, 4, 2, 4), 0)
        self.assertEqual(turns_from(five, 1), ((1, 0, 3, 2), (4,)))
        self.assertEqual(turn_after(five, 1, 3), 2)
        four = ((1,) * 4, 1, book(put=(1, HALF)), (1, 2, 3, 1), 0)
        self.assertEqual([turn_after(four, 0, number) for number in range(9)], turns(four[3], 0, 9))
        self.assertEqual(turn_after(four, 0, 3 * 10 ** 30), 3)

    def test_great_numbers(self):
        for follow in FOLLOWS:
            house = house_by(follow)
            for member in range(len(follow)):
                way, ring = turns_from(house, member)
                for number in (10 ** 30, 10 ** 999 - 1, 6 * 10 ** 500 + 5):
                    told = ring[(number - len(way)) % len(ring)]
                    self.assertEqual(turn_after(house, member, number), told)

    def test_refusals(self):
        house = house_by((1, 0))
        for function, rest in ((turn_after, (None,)), (turns_from, ()), (turns_to, (None,))):
            check_refused(self, BadHouse, {"place": "next"}, function, house_by((1, 2)), None, *rest)
            for member in strange_values() + [2, -1, (0,)]:
                check_refused(self, BadMember, {"value": member}, function, house, member, *rest)
        for value in strange_values()[:-1] + [-1, (0,), "1"]:
            check_refused(self, BadNumber, {"value": value}, turn_after, house, 0, value)
        for value in strange_values() + [2, -1, (0,)]:
            check_refused(self, BadMember, {"value": value}, turns_to, house, 0, value)


class FloorTest(unittest.TestCase):

    def test_stands_of_all_sorts(self):
        found = {}
        for house in SMALL.values():
            kinds = [rule[0] for rule in house[2]]
            for stand in list(graph(house, first_stand(house))) + [odd_stand(house), ("over", ())]:
                told = tuple(kind for kind in kinds if any(may_member(house, stand, member, kind)
                                                           for member in range(len(house[0]))))
                self.assertEqual(kinds_open(house, stand), told)
                found[told] = True
                for member in range(len(house[0])):
                    for kind in [None] + kinds:
                        self.assertIs(can_move(house, stand, member, kind), may_member(house, stand, member, kind))
                if stand[0] == "over" or is_question(house, stand):
                    self.assertEqual(told, ())
        self.assertGreater(len(found), 12)

    def test_told_out(self):
        house = ((1, 1), 1, FULL, (1, 0), 3)
        begin = first_stand(house)
        self.assertEqual(kinds_open(house, begin), ("put", "end"))
        self.assertEqual(kinds_open(house, begin[:2] + ((0,),) + begin[3:]), ("put", "take", "end"))
        self.assertEqual(kinds_open(house, begin[:7] + (0,)), ())
        self.assertEqual(kinds_open(house, ("over", ())), ())
        pending = begin[:3] + ((("put", (0,)),),) + begin[4:]
        self.assertEqual(kinds_open(house, pending), ("amend", "lay", "close", "end"))
        self.assertEqual(kinds_open(house, pending[:4] + (True,) + pending[5:]), ("lay", "end"))
        self.assertEqual(kinds_open(house, pending[:6] + (2, 3)), ())
        self.assertEqual([can_move(house, pending[:6] + (2, 3), 0, kind) for kind in (None,) + KINDS], [False] * 7)
        self.assertEqual([can_move(house, begin, member, None) for member in (0, 1)], [True, False])
        self.assertEqual([can_move(house, begin[:7] + (0,), 0, kind) for kind in (None, "put", "end")],
                         [True, False, False])
        self.assertIs(can_move(house, ("over", ()), 0, None), False)
        self.assertIs(can_move(GREAT, first_stand(GREAT), 0, "put"), True)
        self.assertEqual(kinds_open(GREAT, first_stand(GREAT)), ("put", "end"))

    def test_refusals(self):
        house = house_by((1, 0))
        begin = first_stand(house)
        check_refused(self, BadHouse, {"place": None}, kinds_open, None, None)
        check_refused(self, BadStand, {"place": None}, kinds_open, house, None)
        check_refused(self, BadHouse, {"place": None}, can_move, None, None, None, 0)
        check_refused(self, BadStand, {"place": "turn"}, can_move, house, begin[:5] + (2, 0, None), None, 0)
        for member in strange_values() + [2, -1]:
            check_refused(self, BadMember, {"value": member}, can_move, house, begin, member, 0)
        for kind in strange_values()[1:] + ["amend", "pass", ("put",)]:
            check_refused(self, BadName, {"name": kind}, can_move, house, begin, 1, kind)


if __name__ == "__main__":
    unittest.main()

"""floorpowers/renamings.py: each kind of value renamed, that acts lead to the same, two renamings, likenesses."""

import unittest
from itertools import permutations, product

from floorpowers.acts import acts_at, done
from floorpowers.errors import (BadAct, BadGoal, BadHouse, BadLot, BadNumber, BadRow, BadStand)
from floorpowers.houses import is_house
from floorpowers.renamings import (act_renamed, back_renaming, both_renamings, goal_renamed, house_renamed, likenesses,
                                   lot_renamed, need_renaming, row_renamed, stand_renamed)
from floorpowers.rows import need_row
from floorpowers.stands import is_stand
from helpers import check_refused, strange_values
from sittings import FULL, HALF, SMALL, acts, all_acts, book, drawn_row, first_stand, graph, lots, turned
from test_stands import HOUSE, STAND

RENAMING = ((2, 0, 1), (1, 0), (0,))
SAME = ((0, 1, 2), (0, 1), ())
# With what is renamed: a right value of it, and one that is refused, by which error.
RENAMED = ((lot_renamed, (0, 2), (3,), BadLot, {"number": 0}), (goal_renamed, ((), (0,)), ((0,), ()), BadGoal,
                                                                {"number": 1}),
           (stand_renamed, STAND, STAND[:5] + (3, 1, 3), BadStand, {"place": "turn"}),
           (act_renamed, ("vote", (0,)), ("vote", (3,)), BadAct, {"place": None}),
           (row_renamed, (("pass",), ("move", ("lay",))), (("pass",), ("move", ("put", ()))), BadRow, {"place": 1}))


def all_renamings(house):
    """All renamings of a house."""
    return list(product(permutations(range(len(house[0]))), permutations(range(house[1])), lots(house[1])))


def names(order, numbers):
    """What numbers become, ascending."""
    return tuple(sorted(order[number] for number in numbers))


def model_motion(renaming, motion):
    """A motion renamed."""
    if len(motion) == 1:
        return motion
    change = motion[1] if motion[0] == "put" else (motion[1],)
    new = names(renaming[1], change)
    return (motion[0], new if motion[0] == "put" else new[0])


def model_act(renaming, act):
    """An act renamed."""
    if act[0] == "vote":
        return ("vote", names(renaming[0], act[1]))
    return act if act[0] == "pass" else ("move", model_motion(renaming, act[1]))


def model_text(renaming, text):
    """A text renamed."""
    return turned(names(renaming[1], text), renaming[2])


def model_stand(renaming, stand):
    """A stand renamed."""
    if stand[0] == "over":
        return ("over", model_text(renaming, stand[1]))
    pile = tuple(model_motion(renaming, motion) for motion in stand[3])
    table = stand[2] if stand[2] is None else names(renaming[1], stand[2])
    return ("floor", model_text(renaming, stand[1]), table, pile, stand[4], renaming[0][stand[5]]) + stand[6:]


def model_house(members, house):
    """A house with its members renamed."""
    weights, follow = [None] * len(members), [None] * len(members)
    for old, new in enumerate(members):
        weights[new] = house[0][old]
        follow[new] = members[house[3][old]]
    return (tuple(weights),) + house[1:3] + (tuple(follow), house[4])


class NeedTest(unittest.TestCase):

    def test_right_ones(self):
        for house in (HOUSE, SMALL["one member"], SMALL["three members"], SMALL["put alone"]):
            for renaming in all_renamings(house):
                self.assertIs(need_renaming(house, renaming), renaming)

    def test_wrong_ones(self):
        strange = strange_values()
        wrong = strange + [(), RENAMING[:2], RENAMING + ((),), list(RENAMING), RENAMING[0], 0]
        for at, more in ((0, [(), (0, 1), (0, 1, 3), (0, 0, 1), (1, 2, 3), (0, 1, 2, 0), [0, 1, 2], (-1, 0, 1),
                              (True, 0, 2)]),
                         (1, [(), (0,), (0, 2), (0, 0), (1, 2), (0, 1, 2), [0, 1], (-1, 0), (0, True), (False, 1)]),
                         (2, [(2,), (0, 0), (1, 0), (True,), [0], 0, (0, 1, 2)])):
            wrong += [RENAMING[:at] + (value,) + RENAMING[at + 1:] for value in strange + more]
        wrong += [((value, 0, 1), (1, 0), ()) for value in strange] + [((0, 1, 2), (0, value), ()) for value in strange]
        for renaming in wrong:
            for function in (need_renaming, house_renamed, back_renaming):
                check_refused(self, BadNumber, {"value": renaming}, function, HOUSE, renaming)
            for function, right, _, _, _ in RENAMED:
                check_refused(self, BadNumber, {"value": renaming}, function, HOUSE, right, renaming)
            check_refused(self, BadNumber, {"value": renaming}, both_renamings, HOUSE, renaming, None)
            check_refused(self, BadNumber, {"value": renaming}, both_renamings, HOUSE, RENAMING, renaming)

    def test_the_turn_of_refusals(self):
        for function, _, wrong, kind, fields in RENAMED:
            check_refused(self, BadHouse, {"place": "weights"}, function, ((),) + HOUSE[1:], wrong, None)
            check_refused(self, kind, fields, function, HOUSE, wrong, None)
        for function in (house_renamed, need_renaming, back_renaming):
            check_refused(self, BadHouse, {"place": None}, function, None, None)
        check_refused(self, BadHouse, {"place": None}, both_renamings, None, None, None)
        check_refused(self, BadHouse, {"place": None}, likenesses, None)
        for row in strange_values() + [[], [("pass",)]]:
            check_refused(self, BadRow, {"place": None}, row_renamed, HOUSE, row, None)
            check_refused(self, BadRow, {"place": 1}, row_renamed, HOUSE, (("pass",), row, None), None)


class RenamedTest(unittest.TestCase):

    def test_told_out(self):
        self.assertEqual(house_renamed(HOUSE, RENAMING), ((2, 1, 3), 2, FULL, (1, 2, 0), 4))
        self.assertEqual(house_renamed(HOUSE[:3] + ((1, 1, 0), 4), RENAMING)[3], (0, 2, 0))
        self.assertEqual(lot_renamed(HOUSE, (0, 1), RENAMING), (0, 2))
        self.assertEqual(goal_renamed(HOUSE, ((), (0,), (0, 1)), RENAMING), ((0,), (0, 1), (1,)))
        self.assertEqual(stand_renamed(HOUSE, STAND, RENAMING),
                         ("floor", (0, 1), (0,), (("put", (0, 1)), ("amend", 0), ("lay",)), False, 1, 1, 3))
        self.assertEqual(stand_renamed(HOUSE, ("over", (1,)), RENAMING), ("over", ()))
        self.assertEqual(act_renamed(HOUSE, ("move", ("put", (0,))), RENAMING), ("move", ("put", (1,))))
        self.assertEqual(act_renamed(HOUSE, ("move", ("amend", 1)), RENAMING), ("move", ("amend", 0)))
        self.assertEqual(act_renamed(HOUSE, ("vote", (1, 2)), RENAMING), ("vote", (0, 1)))
        row = (("vote", ()), ("pass",), ("move", ("end",)), ("vote", (0,)))
        self.assertEqual(row_renamed(HOUSE, row, RENAMING), row[:3] + (("vote", (2,)),))
        self.assertEqual(row_renamed(HOUSE, (), RENAMING), ())

    def test_each_kind_of_value(self):
        for house in (HOUSE, SMALL["two members"], SMALL["put alone"]):
            for renaming in all_renamings(house):
                self.assertEqual(house_renamed(house, renaming), model_house(renaming[0], house))
                for lot in lots(len(house[0])):
                    self.assertEqual(lot_renamed(house, lot, renaming), names(renaming[0], lot))
                for act in all_acts(house):
                    self.assertEqual(act_renamed(house, act, renaming), model_act(renaming, act))
                row = tuple(all_acts(house))
                self.assertEqual(row_renamed(house, row, renaming), tuple(model_act(renaming, act) for act in row))
                texts = lots(house[1])
                for number in range(2 ** len(texts)):
                    goal = tuple(text for at, text in enumerate(texts) if number >> at & 1)
                    renamed = tuple(sorted(model_text(renaming, text) for text in goal))
                    self.assertEqual(goal_renamed(house, goal, renaming), renamed)

    def test_acts_lead_to_what_they_lead_to_renamed(self):
        for name in ("two members", "equal ranks", "one who never has the turn", "no limit, lay and take", "put alone"):
            house = SMALL[name]
            arrows = graph(house, first_stand(house))
            for renaming in all_renamings(house)[::3]:
                other = house_renamed(house, renaming)
                self.assertIs(is_house(other), True)
                for stand in list(arrows)[::5]:
                    renamed = stand_renamed(house, stand, renaming)
                    self.assertEqual(renamed, model_stand(renaming, stand))
                    self.assertIs(is_stand(other, renamed), True)
                    self.assertEqual(acts_at(other, renamed), tuple(sorted(act_renamed(house, act, renaming)
                                                                           for act in acts(house, stand))))
                    for act, behind in arrows[stand].items():
                        self.assertEqual(done(other, renamed, act_renamed(house, act, renaming)),
                                         stand_renamed(house, behind, renaming))

    def test_rows_are_in_order_in_the_house_renamed(self):
        house = SMALL["one who never has the turn"]
        for state in range(20):
            row = drawn_row(house, first_stand(house), state * 31, 100)
            for renaming in all_renamings(house)[::7]:
                renamed = row_renamed(house, row, renaming)
                need_row(house_renamed(house, renaming), stand_renamed(house, first_stand(house), renaming), renamed)


class BothTest(unittest.TestCase):

    def test_told_out(self):
        other = ((1, 0, 2), (0, 1), (1,))
        self.assertEqual(both_renamings(HOUSE, RENAMING, other), ((2, 1, 0), (1, 0), (0, 1)))
        self.assertEqual(both_renamings(HOUSE, other, RENAMING), ((0, 2, 1), (1, 0), ()))
        self.assertEqual(back_renaming(HOUSE, RENAMING), ((1, 2, 0), (1, 0), (1,)))

    def check_both(self, house, stands, one, other):
        both = both_renamings(house, one, other)
        self.assertIs(need_renaming(house, both), both)
        renamed = house_renamed(house, one)
        self.assertEqual(house_renamed(house, both), house_renamed(renamed, other))
        for act in all_acts(house):
            self.assertEqual(act_renamed(house, act, both), act_renamed(renamed, act_renamed(house, act, one), other))
        for stand in stands:
            twice = stand_renamed(renamed, stand_renamed(house, stand, one), other)
            self.assertEqual(stand_renamed(house, stand, both), twice)

    def test_two_of_a_small_house(self):
        for name in ("two members", "put alone", "one who never has the turn"):
            house = SMALL[name]
            stands = list(graph(house, first_stand(house)))
            is_small = name == "two members"
            for one, other in list(product(all_renamings(house), repeat=2))[::1 if is_small else 11]:
                self.check_both(house, stands if is_small else stands[::19], one, other)

    def test_back(self):
        for house in (SMALL["two members"], SMALL["put alone"], HOUSE, SMALL["five members"]):
            same = (tuple(range(len(house[0]))), tuple(range(house[1])), ())
            for renaming in all_renamings(house):
                back = back_renaming(house, renaming)
                self.assertEqual(both_renamings(house, renaming, back), same)
                self.assertEqual(both_renamings(house, back, renaming), same)
                self.assertEqual(back_renaming(house, back), renaming)

    def test_back_of_all_stands_that_can_be_reached(self):
        house = SMALL["put alone"]
        for renaming in all_renamings(house):
            back = back_renaming(house, renaming)
            other = house_renamed(house, renaming)
            for stand in graph(house, first_stand(house)):
                self.assertEqual(stand_renamed(other, stand_renamed(house, stand, renaming), back), stand)


class LikenessesTest(unittest.TestCase):

    def test_told_out(self):
        self.assertEqual(likenesses(HOUSE), ((0, 1, 2),))
        alike = ((1, 1, 1),) + HOUSE[1:]
        self.assertEqual(likenesses(alike), ((0, 1, 2), (1, 2, 0), (2, 0, 1)))
        self.assertEqual(likenesses(alike[:3] + ((0, 1, 2), 4)), tuple(permutations(range(3))))
        self.assertEqual(likenesses(alike[:3] + ((1, 0, 0), 4)), ((0, 1, 2),))
        self.assertEqual(likenesses(alike[:3] + ((0, 0, 0), 4)), ((0, 1, 2), (0, 2, 1)))
        self.assertEqual(likenesses(((2, 1, 2),) + HOUSE[1:3] + ((0, 1, 2), None)), ((0, 1, 2), (2, 1, 0)))
        self.assertEqual(likenesses(((7,), 3, FULL, (0,), None)), ((0,),))
        self.assertEqual(len(likenesses(((4,) * 5, 1, book(put=(0, HALF)), tuple(range(5)), None))), 120)

    def test_all_small_houses(self):
        houses = list(SMALL.values())
        houses += [(weights, 1, book(put=(0, HALF)), follow, 2) for weights in product((1, 2), repeat=3)
                   for follow in product(range(3), repeat=3)]
        for house in houses:
            alike = [members for members in permutations(range(len(house[0]))) if model_house(members, house) == house]
            self.assertEqual(likenesses(house), tuple(alike))


if __name__ == "__main__":
    unittest.main()

"""floorpowers/acts.py: the acts in order, what each does, over all stands that can come and over odd ones."""

import unittest
from itertools import product

from floorpowers.acts import acts_at, done, is_in_order, need_act, outcomes
from floorpowers.errors import BadAct, BadHouse, BadStand
from floorpowers.stands import is_stand
from helpers import check_refused, strange_values
from sittings import (ALL, HALF, LEAST_HALF, NOBODY, SMALL, acts, after, all_acts, book, first_stand, graph, is_carried,
                      lots, motions)
from test_stands import HOUSE, STAND, TINY

BARE = ("floor", (0,), None, (), False, 0, 0, 4)


def put_to_vote(pile, table=None, closed=False):
    """A stand of HOUSE in which the question is put."""
    return ("floor", (0,), table, pile, closed, 1, 3, 2)


def all_stands(house):
    """All stands of a house with one clause, whether they can come or not."""
    known = motions(house) + [("put", ())]
    piles = [pile for size in range(4) for pile in product(known, repeat=size)]
    piles = [pile for pile in piles if is_stand(house, ("floor", (), (), pile, False, 0, 0, house[4]))]
    found = [("over", text) for text in lots(1)]
    for text, table, pile, closed, turn in product(lots(1), [None] + lots(1), piles, (True, False),
                                                   range(len(house[0]))):
        for passes in range(len(house[0]) + 1):
            for left in range(house[4] + 1):
                found.append(("floor", text, table, pile, closed, turn, passes, left))
    return [stand for stand in found if is_stand(house, stand)]


class NeedTest(unittest.TestCase):

    def test_right_acts(self):
        for house in SMALL.values():
            for act in all_acts(house):
                self.assertIs(need_act(house, act), act)

    def test_wrong_acts(self):
        wrong = strange_values() + [(), ("pass", ()), ("Pass",), ["pass"], ("vote",), ("move",), ("vote", (), ()),
                                    ("over", ())]
        wrong += [("move", ("put", ())), ("move", ("put", (2,))), ("move", ("amend", 2)), ("move", ("amend", True)),
                  ("move", "lay"), ("move", ["lay"]), ("move", ("lay",), 0), ["move", ("lay",)], ("lay",),
                  ("put", (0,)),
                  ("move", ("lay", 0)), ("move", ("pass",)), ("move", ("vote", ())), ("Move", ("lay",))]
        wrong += [("vote", (3,)), ("vote", (0, 0)), ("vote", (1, 0)), ("vote", [0]), ("vote", (True,)), ("vote", 0),
                  (0, ())]
        wrong += [(value,) for value in strange_values()] + [(value, ()) for value in strange_values()]
        wrong += [("move", value) for value in strange_values()] + [("vote", value) for value in strange_values()]
        wrong += [("move", ("put", value)) for value in strange_values()] + [("vote",
                                                                              (value,)) for value in strange_values()]
        for act in wrong:
            check_refused(self, BadAct, {"place": None}, need_act, HOUSE, act)
            for function in (is_in_order, done):
                check_refused(self, BadAct, {"place": None}, function, HOUSE, STAND, act)
                check_refused(self, BadAct, {"place": None}, function, HOUSE, ("over", ()), act)

    def test_motions_that_the_book_lacks_are_none(self):
        house = HOUSE[:2] + (book(put=(1, HALF)),) + HOUSE[3:]
        for motion in motions(HOUSE):
            if motion[0] != "put":
                check_refused(self, BadAct, {"place": None}, need_act, house, ("move", motion))

    def test_the_turn_of_refusals(self):
        for function in (is_in_order, done):
            check_refused(self, BadHouse, {"place": "clauses"}, function, HOUSE[:1] + (0,) + HOUSE[2:], None, None)
            check_refused(self, BadStand, {"place": "turn"}, function, HOUSE, BARE[:5] + (3, 3, 9), None)
        for function in (acts_at, outcomes):
            check_refused(self, BadHouse, {"place": None}, function, None, None)
            check_refused(self, BadStand, {"place": None}, function, HOUSE, None)


class EffectsTest(unittest.TestCase):
    """What each act does, told out; HOUSE has the weights 3, 2, 1."""

    def check(self, stand, act, behind):
        self.assertIs(is_in_order(HOUSE, stand, act), True)
        self.assertEqual(done(HOUSE, stand, act), behind)

    def test_moves_and_passes(self):
        self.check(BARE, ("move", ("put", (1,))), ("floor", (0,), None, (("put", (1,)),), False, 1, 0, 3))
        self.check(STAND, ("move", ("close",)), STAND[:3] + (STAND[3] + (("close",),), False, 0, 0, 2))
        self.check(BARE, ("pass",), ("floor", (0,), None, (), False, 1, 1, 4))
        self.check(BARE[:6] + (2, 4), ("pass",), ("over", (0,)))
        self.check(STAND[:6] + (2, 3), ("pass",), STAND[:5] + (0, 3, 3))
        no_limit = HOUSE[:4] + (None,)
        self.assertEqual(done(no_limit, BARE[:7] + (None,), ("move", ("end",))),
                         ("floor", (0,), None, (("end",),), False, 1, 0, None))

    def test_put(self):
        stand = put_to_vote((("put", (0, 1)),))
        self.check(stand, ("vote", (0, 1)), ("floor", (1,), None, (), False, 1, 0, 2))
        self.check(stand, ("vote", (0,)), ("floor", (0,), None, (), False, 1, 0, 2))
        self.check(put_to_vote((("put", ()),), (1,), True), ("vote", (0, 1)), ("floor", (0,), (1,), (), False, 1, 0, 2))

    def test_amend(self):
        stand = put_to_vote((("put", (0, 1)), ("amend", 1)))
        self.check(stand, ("vote", (0,)), ("floor", (0,), None, (("put", (0,)),), False, 1, 0, 2))
        self.check(stand, ("vote", (1,)), ("floor", (0,), None, (("put", (0, 1)),), False, 1, 0, 2))
        stand = put_to_vote((("put", (0,)), ("amend", 0)), None, True)
        self.check(stand, ("vote", (0,)), ("floor", (0,), None, (("put", ()),), True, 1, 0, 2))

    def test_lay_where_nothing_and_where_something_lies(self):
        for table in (None, (0,)):
            pile = (("put", (1,)), ("amend", 0), ("lay",))
            for closed in (True, False):
                stand = put_to_vote(pile, table, closed)
                self.check(stand, ("vote", (0, 2)), ("floor", (0,), (1,), (), False, 1, 0, 2))
                self.check(stand, ("vote", (1, 2)), ("floor", (0,), table, pile[:2], closed, 1, 0, 2))
        self.check(put_to_vote((("put", ()), ("lay",)), (1,)), ("vote", (0, 1, 2)),
                   ("floor", (0,), (), (), False, 1, 0, 2))

    def test_take(self):
        for closed in (True, False):
            stand = put_to_vote((("take",),), (0, 1), closed)
            self.check(stand, ("vote", (1,)), ("floor", (0,), None, (("put", (0, 1)),), closed, 1, 0, 2))
            self.check(stand, ("vote", (2,)), ("floor", (0,), (0, 1), (), False, 1, 0, 2))
        self.check(put_to_vote((("take",),), ()), ("vote", (1,)), ("floor", (0,), None, (("put", ()),), False, 1, 0, 2))

    def test_close(self):
        stand = put_to_vote((("put", (1,)), ("lay",), ("close",)))
        self.check(stand, ("vote", (0, 2)), ("floor", (0,), None, (("put", (1,)), ("lay",)), True, 1, 0, 2))
        self.check(stand, ("vote", (0,)), ("floor", (0,), None, (("put", (1,)), ("lay",)), False, 1, 0, 2))
        stand = put_to_vote((("take",), ("close",)), (1,))
        self.check(stand, ("vote", (0, 1)), ("floor", (0,), (1,), (("take",),), True, 1, 0, 2))

    def test_end_alone_and_with_others_pending(self):
        for pile in ((("end",),), (("put", (1,)), ("amend", 0), ("lay",), ("end",)), (("take",), ("close",), ("end",))):
            stand = put_to_vote(pile, (1,))
            self.check(stand, ("vote", (0, 1, 2)), ("over", (0,)))
            self.check(stand, ("vote", (0, 1)), ("floor", (0,), (1,), pile[:-1], False, 1, 0, 2))

    def test_acts_at_told_out(self):
        moves = (("move", ("amend", 0)), ("move", ("amend", 1)), ("move", ("close",)), ("move", ("end",)),
                 ("move", ("lay",)))
        on_put = BARE[:3] + ((("put", (1,)),),) + BARE[4:]
        self.assertEqual(acts_at(HOUSE, on_put), moves + (("pass",),))
        self.assertEqual(acts_at(HOUSE, on_put[:4] + (True,) + on_put[5:]), moves[3:] + (("pass",),))
        puts = tuple(("move", ("put", text)) for text in ((0,), (0, 1), (1,)))
        self.assertEqual(acts_at(HOUSE, BARE), moves[3:4] + puts + (("pass",),))
        self.assertEqual(acts_at(HOUSE, BARE[:2] + ((),) + BARE[3:]), moves[3:4] + puts + (("move", ("take",)),
                                                                                           ("pass",)))
        self.assertEqual(acts_at(HOUSE, BARE[:7] + (0,)), (("pass",),))
        self.assertEqual(acts_at(HOUSE, ("over", ())), ())
        votes = tuple(("vote", lot) for lot in ((), (0,), (0, 1), (0, 1, 2), (0, 2), (1,), (1, 2), (2,)))
        self.assertEqual(acts_at(HOUSE, put_to_vote((("end",),))), votes)
        self.assertEqual(acts_at(HOUSE, put_to_vote((("end",),))[:7] + (0,)), votes)


class EverywhereTest(unittest.TestCase):

    def check_stand(self, house, stand, told):
        """Check a stand against what the words tell, told being the acts in order and where they lead."""
        self.assertEqual(acts_at(house, stand), tuple(sorted(told)))
        for act in all_acts(house):
            self.assertIs(is_in_order(house, stand, act), act in told)
            if act in told:
                behind = done(house, stand, act)
                self.assertEqual(behind, told[act])
                self.assertIs(is_stand(house, behind), True)
            else:
                check_refused(self, BadAct, {"place": "order"}, done, house, stand, act)
        behind = []
        for act in sorted(told):
            if told[act] not in behind:
                behind.append(told[act])
        self.assertEqual(outcomes(house, stand), tuple(behind))

    def test_all_stands_that_can_be_reached(self):
        for house in SMALL.values():
            for stand, told in graph(house, first_stand(house)).items():
                self.check_stand(house, stand, told)

    def test_all_stands_of_a_tiny_house(self):
        for stand in all_stands(TINY):
            self.check_stand(TINY, stand, {act: after(TINY, stand, act) for act in acts(TINY, stand)})

    def test_votes_of_each_kind_with_each_share(self):
        table = (1,)
        piles = [(("put", (0,)),), (("put", (0,)), ("amend", 1)), (("put", (0,)), ("lay",)), (("take",),),
                 (("put", (0,)), ("close",)), (("put", (0,)), ("end",))]
        for share in (HALF, LEAST_HALF, ALL, NOBODY, (1, 9, True), (8, 9, False), (9, 9, True), (1, 3, False)):
            rules = {kind: (at, share) for at, kind in enumerate(("take", "put", "amend", "lay", "close", "end"))}
            house = HOUSE[:2] + (book(**rules),) + HOUSE[3:]
            for pile in piles:
                stand = put_to_vote(pile, table)
                self.check_stand(house, stand, {act: after(house, stand, act) for act in acts(house, stand)})
                carried = [lot for lot in lots(3) if is_carried(house, pile[-1], lot)]
                self.assertEqual(len(outcomes(house, stand)), 2 if carried else 1)

    def test_a_put_without_clauses_leads_to_one_stand(self):
        stand = put_to_vote((("put", ()),))
        self.assertEqual(outcomes(HOUSE, stand), (("floor", (0,), None, (), False, 1, 0, 2),))

    def test_text_changes_by_a_put_that_carries_alone(self):
        for house in SMALL.values():
            for stand in graph(house, first_stand(house)):
                for act in acts_at(house, stand):
                    behind = done(house, stand, act)
                    if behind[1] != stand[1]:
                        self.assertEqual((act[0], stand[3][-1][0]), ("vote", "put"))
                        self.assertIs(is_carried(house, stand[3][-1], act[1]), True)


if __name__ == "__main__":
    unittest.main()

"""floorpowers/idle.py: idle kinds, what is asked of ranks, least ranks, shares that go for one another, least books."""

import unittest
from itertools import product

from floorpowers.beside import are_alike_places
from floorpowers.errors import BadHouse, BadName, BadStand, TooGreat
from floorpowers.houses import house_with, is_house
from floorpowers.idle import asked_ranks, does_matter, kinds_moved, least_book, least_ranks, shares_for
from floorpowers.stands import is_stand
from helpers import check_refused, strange_values
from models import all_shares, pair_graph, parting
from sittings import (ALL, BEYOND_EDGE, EDGE_HOUSE, GREAT, HALF, KINDS, LEAST_HALF, NOBODY, ON_EDGE, SMALL, THIRD, acts,
                      book, first_stand, graph, is_carried, lots, may, motions)
from test_webs import odd_stand, starts

FEW = {
    "three kinds": ((2, 1), 1, book(put=(2, HALF), amend=(4, LEAST_HALF), end=(7, ALL)), (1, 0), 2),
    "all but lay": ((1,), 1, book(put=(5, HALF), amend=(3, HALF), take=(5, HALF), close=(6, HALF)), (0,), 2),
    "lay below": ((1, 1), 1, book(put=(4, HALF), lay=(2, HALF), take=(4, THIRD), end=(4, HALF)), (1, 0), 2),
    "nobody carries": ((1, 1), 1, book(put=(1, NOBODY), close=(3, HALF), end=(2, NOBODY)), (0, 0), 2),
    "one move": ((1, 1), 1, book(put=(3, HALF), amend=(5, HALF), close=(7, HALF)), (1, 0), 1),
    "no limit": ((1,), 1, book(put=(1, HALF), lay=(5, HALF), end=(3, HALF)), (0,), None),
}


def places(houses):
    """Places of houses: beginnings, stands that come, one that doesn't."""
    return [(house, stand) for house in houses for stand in starts(house) + [odd_stand(house)]]


PLACES = places(FEW.values())


def kinds_in(house):
    """The kinds of a book."""
    return [rule[0] for rule in house[2]]


def with_ranks(house, ranks):
    """The house with other ranks."""
    rules = tuple((kind, rank, share) for (kind, _, share), rank in zip(house[2], ranks))
    return house[:2] + (rules,) + house[3:]


def asked_apart(house, stand):
    """What is asked of ranks at a place, a kind at a time with a rank above all others."""
    asked = set()
    ranks = {kind: rank for kind, rank, _ in house[2]}
    for kind in ranks:
        highest = with_ranks(house, [99 if each == kind else ranks[each] for each in ranks])
        for here in graph(house, stand):
            if here[0] == "floor" and here[3] and here[3][-1][0] != kind:
                if any(may(highest, here, ("move", each)) for each in motions(house) if each[0] == kind):
                    last = here[3][-1][0]
                    asked.add((last, kind, ranks[kind] > ranks[last]))
    pile = [motion[0] for motion in stand[3]] if stand[0] == "floor" else []
    return tuple(sorted(asked | {(below, above, True) for below, above in zip(pile, pile[1:])}))


class MovedTest(unittest.TestCase):

    def test_over_the_acts_of_all_stands(self):
        for house, stand in PLACES + places(SMALL.values()):
            moved = {act[1][0] for here in graph(house, stand) for act in acts(house, here) if act[0] == "move"}
            self.assertEqual(kinds_moved(house, stand), tuple(kind for kind in kinds_in(house) if kind in moved))

    def test_told_out(self):
        house = SMALL["three members"]
        self.assertEqual(kinds_moved(house, first_stand(house)), ("put", "amend", "lay", "close", "end"))
        self.assertEqual(kinds_moved(house[:4] + (3,), first_stand(house[:4] + (3,))), KINDS)
        self.assertEqual(kinds_moved(house, ("over", ())), ())
        self.assertEqual(kinds_moved(house[:4] + (0,), first_stand(house[:4] + (0,))), ())
        self.assertEqual(kinds_moved(house[:4] + (1,), first_stand(house[:4] + (1,))), ("put", "end"))
        self.assertEqual(kinds_moved(house, ("floor", (), (0,), (), False, 0, 0, 1)), ("put", "take", "end"))
        stand = ("floor", (), None, (("put", (0,)), ("lay",)), True, 0, 1, 1)
        self.assertEqual(kinds_moved(house, stand), ("put", "lay", "take", "end"))


class RanksTest(unittest.TestCase):

    def test_asked_over_all_stands(self):
        for house, stand in PLACES + places(list(SMALL.values())[::2]):
            self.assertEqual(asked_ranks(house, stand), asked_apart(house, stand))

    def test_what_is_pending_at_the_place_itself(self):
        house = SMALL["three members"]
        stand = ("floor", (), None, (("put", (0,)), ("amend", 0), ("lay",), ("close",)), False, 0, 0, 0)
        told = (("amend", "lay", True), ("lay", "close", True), ("put", "amend", True))
        self.assertEqual(asked_ranks(house, stand), told)
        self.assertEqual(asked_ranks(house, stand[:6] + (3, 0)), told)
        self.assertEqual(least_ranks(house, stand), (0, 1, 2, 0, 3, 0))
        one = ("floor", (), None, (("put", (0,)), ("end",)), False, 0, 0, 0)
        self.assertEqual(asked_ranks(house, one), (("put", "end", True),))
        self.assertEqual(asked_ranks(house, one[:3] + ((("end",),),) + one[4:]), ())
        self.assertEqual(asked_ranks(house, ("over", ())), ())
        self.assertEqual(least_ranks(house, ("over", ())), (0,) * 6)

    def test_least_ranks_by_all_ranks(self):
        for house, stand in PLACES[::3]:
            alike = []
            for ranks in product(range(5), repeat=len(house[2])):
                other = with_ranks(house, ranks)
                if is_stand(other, stand) and parting((house, stand), (other, stand)) is None:
                    alike.append(ranks)
            least = tuple(min(column) for column in zip(*alike))
            self.assertIn(least, alike)
            self.assertEqual(least_ranks(house, stand), least)

    def test_alike_exactly_if_all_that_is_asked_stays(self):
        for house, stand in PLACES[1::3]:
            for ranks in product((0, 3, 4, 8), repeat=len(house[2])):
                other = with_ranks(house, ranks)
                if is_stand(other, stand):
                    rank = dict(zip(kinds_in(house), ranks))
                    do_stay = all((rank[high] > rank[low]) == is_above
                                  for low, high, is_above in asked_ranks(house, stand))
                    self.assertIs(are_alike_places(house, stand, other, stand), do_stay)

    def test_without_idle_kinds(self):
        for house, stand in PLACES:
            moved = kinds_moved(house, stand)
            pile = [motion[0] for motion in stand[3]] if stand[0] == "floor" else []
            for kind in kinds_in(house):
                if kind != "put" and kind not in pile:
                    less = house_with(house, kind, None)
                    self.assertIs(are_alike_places(house, stand, less, stand), kind not in moved)


class SharesTest(unittest.TestCase):

    def test_by_all_ninety_shares(self):
        self.assertEqual(len(all_shares()), 90)
        for weights in ((1,), (3, 2, 1), (2, 2, 1, 1), (5, 4, 3, 2, 1), (9, 1, 1)):
            for share in all_shares()[::4]:
                house = (weights, 1, book(put=(0, HALF), lay=(1, share)), (0,) * len(weights), 1)
                own = [lot for lot in lots(len(weights)) if is_carried(house, ("lay",), lot)]
                told = [each for each in all_shares() if own == [
                    lot for lot in lots(len(weights))
                    if is_carried(house[:2] + (book(put=(0, HALF), lay=(1, each)),), ("lay",), lot)]]
                self.assertEqual(shares_for(house, "lay"), tuple(told))
                self.assertIn(share, told)

    def test_told_out(self):
        house = ((1, 1), 1, book(put=(0, ALL), end=(1, NOBODY)), (1, 0), 1)
        self.assertEqual(shares_for(house, "put")[:3], ((1, 1, False), (1, 2, True), (2, 2, False)))
        self.assertEqual(shares_for(house, "end"), tuple((p, p, True) for p in range(1, 10)))

    def test_matters_by_all_ninety_shares(self):
        for house, stand in PLACES[::4]:
            for kind, rank, _ in house[2]:
                others = [house_with(house, kind, (rank, share)) for share in all_shares()]
                matters = any(parting((house, stand), (other, stand)) is not None for other in set(others))
                self.assertIs(does_matter(house, stand, kind), matters)

    def test_matters_told_out(self):
        house = SMALL["three members"]
        self.assertIs(does_matter(house, first_stand(house), "put"), True)
        self.assertIs(does_matter(house, ("over", ()), "put"), False)
        lay = ("floor", (0,), None, (("put", ()), ("lay",)), False, 0, 2, 0)
        self.assertIs(does_matter(house, lay, "put"), False)
        self.assertIs(does_matter(house, lay, "lay"), True)
        self.assertIs(does_matter(house, lay, "end"), False)
        self.assertIs(does_matter(house[:4] + (1,), first_stand(house[:4] + (1,)), "amend"), False)

    def test_what_is_no_kind_of_the_book(self):
        house = FEW["three kinds"]
        for name in strange_values() + ["lay", "take", "close", "pass", 0, ("put",)]:
            check_refused(self, BadName, {"name": name}, shares_for, house, name)
            check_refused(self, BadName, {"name": name}, does_matter, house, first_stand(house), name)


class LeastBookTest(unittest.TestCase):

    def test_is_alike_and_its_own(self):
        for house, stand in PLACES + places(SMALL.values()):
            told = least_book(house, stand)
            least = house[:2] + (told,) + house[3:]
            self.assertTrue(is_house(least) and is_stand(least, stand))
            if house in FEW.values():
                self.assertIs(parting((house, stand), (least, stand)), None)
            self.assertIs(are_alike_places(house, stand, least, stand), True)
            self.assertEqual(least_book(least, stand), told)

    def test_part_for_part(self):
        for house, stand in PLACES + places(list(SMALL.values())[1::2]):
            pile = [motion[0] for motion in stand[3]] if stand[0] == "floor" else []
            kept = [kind for kind in kinds_in(house) if kind in ("put", *pile, *kinds_moved(house, stand))]
            less = house
            for kind in kinds_in(house):
                less = less if kind in kept else house_with(less, kind, None)
            told = tuple(zip(kept, least_ranks(less, stand), [shares_for(house, kind)[0] for kind in kept]))
            self.assertEqual(least_book(house, stand), told)

    def test_ranks_of_what_is_left(self):
        """A kind that is idle asks for nothing once it is gone: its rank put up those that aren't below it."""
        house = ((1, 1), 1, book(put=(5, HALF), amend=(5, HALF), end=(5, HALF)), (1, 0), 2)
        self.assertEqual(kinds_moved(house, first_stand(house)), ("put", "end"))
        house = ((1, 1), 1, book(put=(5, ALL), amend=(7, HALF), lay=(6, HALF), end=(6, HALF)), (1, 0), 1)
        self.assertEqual(least_book(house, first_stand(house)),
                         (("put", 0, (1, 1, False)), ("end", 0, (1, 1, False))))
        house = ((1, 1), 1, book(put=(1, ALL), amend=(7, HALF), lay=(6, HALF)), (1, 0), 0)
        stand = ("floor", (), None, (("put", (0,)), ("amend", 0)), False, 0, 0, 0)
        self.assertEqual(least_book(house, stand), (("put", 0, (1, 1, False)), ("amend", 1, (1, 1, False))))
        self.assertEqual(least_book(house, ("over", ())), (("put", 0, (1, 1, False)),))

    def test_shares_false_ahead_of_true(self):
        house = ((1, 1), 1, book(put=(1, (1, 2, True))), (1, 0), 1)
        self.assertEqual(least_book(house, first_stand(house)), (("put", 0, (1, 1, False)),))
        house = ((2, 1), 1, book(put=(1, (1, 2, True))), (1, 0), 1)
        self.assertEqual(least_book(house, first_stand(house)), (("put", 0, (1, 2, False)),))
        house = ((1, 1), 1, book(put=(1, (9, 9, True))), (1, 0), 1)
        self.assertEqual(least_book(house, first_stand(house)), (("put", 0, (1, 1, True)),))


class TooGreatTest(unittest.TestCase):

    def test_webs(self):
        great = first_stand(GREAT)
        for house, stand in ((GREAT, great), (EDGE_HOUSE, BEYOND_EDGE)):
            for function in (kinds_moved, asked_ranks, least_ranks, least_book):
                check_refused(self, TooGreat, {"most": 3000}, function, house, stand)
            check_refused(self, TooGreat, {"most": 3000}, does_matter, house, stand, "put")
        self.assertEqual(kinds_moved(EDGE_HOUSE, ON_EDGE), ("put", "lay", "take", "close"))
        self.assertEqual(least_ranks(EDGE_HOUSE, ON_EDGE), (0, 1, 0, 2))
        self.assertEqual(least_book(EDGE_HOUSE, ON_EDGE)[0], ("put", 0, (1, 2, False)))
        self.assertEqual(len(asked_ranks(EDGE_HOUSE, ON_EDGE)), 5)
        check_refused(self, TooGreat, {"most": 3000}, does_matter, EDGE_HOUSE, ON_EDGE, "put")

    def test_pairs_with_any_share(self):
        """The pairs with another share of "end" are few enough, those with one of "put" aren't, nor is it the web."""
        house = ((1, 1, 1), 2, book(put=(1, HALF), close=(2, HALF), end=(3, HALF)), (1, 2, 0), 4)
        stand = first_stand(house)
        sizes = [self.most_pairs(house, kind) for kind in ("put", "end")]
        self.assertGreater(sizes[0], 3000)
        self.assertLessEqual(sizes[1], 3000)
        check_refused(self, TooGreat, {"most": 3000}, does_matter, house, stand, "put")
        self.assertIs(does_matter(house, stand, "end"), True)
        self.assertEqual(len(least_ranks(house, stand)), 3)

    def test_a_great_web_with_few_pairs(self):
        """The pairs with each other share are few: the web itself is too great all the same."""
        house = ((1,), 3, book(put=(1, HALF), amend=(2, HALF), take=(1, HALF)), (0,), 5)
        stand = ("floor", (), (0,), (("take",),), False, 0, 1, 5)
        other = house_with(house, "take", (1, NOBODY))
        self.assertLess(len(pair_graph((house, stand), (other, stand))), 3000)
        self.assertGreater(len(graph(house, stand)), 3000)
        check_refused(self, TooGreat, {"most": 3000}, does_matter, house, stand, "take")

    def most_pairs(self, house, kind):
        """How many pairs there are at most with any share of a kind."""
        rank = {each: high for each, high, _ in house[2]}[kind]
        sizes, seen = [], set()
        for share in all_shares():
            other = house_with(house, kind, (rank, share))
            family = tuple(lot for lot in lots(3) if is_carried(other, (kind,), lot))
            if family not in seen:
                seen.add(family)
                sizes.append(len(pair_graph((house, first_stand(house)), (other, first_stand(house)))))
        return max(sizes)

    def test_behind_the_other_refusals(self):
        great = first_stand(GREAT)
        for function, rest in ((kinds_moved, ()), (asked_ranks, ()), (least_ranks, ()), (least_book, ()),
                               (does_matter, (None,))):
            check_refused(self, BadHouse, {"place": "book"}, function, GREAT[:2] + ((),) + GREAT[3:], great, *rest)
            check_refused(self, BadStand, {"place": "left"}, function, GREAT, great[:7] + (10,), *rest)
        check_refused(self, BadName, {"name": None}, does_matter, GREAT, great, None)
        self.assertEqual(shares_for(GREAT, "end"), shares_for(GREAT[:4] + (0,), "end"))


if __name__ == "__main__":
    unittest.main()

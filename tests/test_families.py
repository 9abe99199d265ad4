"""floorpowers/families.py: the model is sets of frozen sets, all lots of a family one by one."""

import unittest

from floorpowers.errors import BadFamily, TooGreat
from floorpowers.families import (all_families, both_of, contrary, either_of, family_count, family_from, is_as_strong,
                                  is_in_family, lots_in, need_family, strength_rows, who_is_enough, who_is_needed,
                                  who_matters)
from floorpowers.members import every_lot, others_of
from helpers import as_lot, check_refused, family_of_winning, model_families, model_lots, some_families, winning


def model_is_as_strong(many, family, member, far_member):
    """By the words: each lot with far_member, without member, that is in it, is so with member in its place."""
    wins = winning(many, family)
    return all(lot - {far_member} | {member} in wins for lot in wins if far_member in lot and member not in lot)


class FormTest(unittest.TestCase):

    def test_all_tuples_of_lots_of_two_members(self):
        right = model_families(2)
        lots = every_lot(2)
        tuples = [()] + [(a,) for a in lots] + [(a, b) for a in lots for b in lots]
        tuples += [(a, b, c) for a in lots for b in lots for c in lots]
        for family in tuples:
            if family in right:
                self.assertIs(need_family(2, family), family)
            else:
                check_refused(self, BadFamily, {"place": self.first_wrong(family)}, need_family, 2, family)

    def first_wrong(self, family):
        for number, lot in enumerate(family):
            if family[:number + 1] not in model_families(2):
                return number
        return None

    def test_the_first_thing_that_is_wrong(self):
        cases = [(((0,), (0,)), 1), (((1,), (0,)), 1), (((0,), (0, 1)), 1), (((0, 1), (1,)), 1), (((), (1,)), 1),
                 (((0, 1), (0, 2), (1,)), 2), (((0, 1), (1, 2), (0, 2)), 2), (((0, 1), (0, 2), (2,)), 2),
                 ([(0,)], None), ("", None), (None, None), (((0,), [1]), 1), (((3,),), 0), (((0,), (2, 1)), 1),
                 (((0,), 1), 1), (((0,), (1,), (2,), (0, 1, 2)), 3), (((0, 1), (0, 1, 2), (9,)), 1)]
        for family, place in cases:
            check_refused(self, BadFamily, {"place": place}, need_family, 3, family)

    def test_nothing_and_everything(self):
        for many in range(1, 6):
            for family in [(), ((),)]:
                self.assertIs(need_family(many, family), family)
            for lot in every_lot(many):
                self.assertIs(is_in_family(many, (), lot), False)
                self.assertIs(is_in_family(many, ((),), lot), True)
            self.assertEqual(lots_in(many, ()), ())
            self.assertEqual(lots_in(many, ((),)), every_lot(many))
            self.assertEqual((contrary(many, ()), contrary(many, ((),))), (((),), ()))


class LotsTest(unittest.TestCase):

    def test_which_lots_are_in_it(self):
        for many in range(1, 6):
            for family in some_families(many):
                wins = winning(many, family)
                for lot in every_lot(many):
                    self.assertIs(is_in_family(many, family, lot), frozenset(lot) in wins)
                self.assertEqual(lots_in(many, family), tuple(sorted(as_lot(lot) for lot in wins)))

    def test_from_any_lots(self):
        self.assertEqual(family_from(3, ()), ())
        self.assertEqual(family_from(3, ((1, 2), (0, 1), (0,), (0,))), ((0,), (1, 2)))
        self.assertEqual(family_from(3, ((2,), ())), ((),))
        for many in range(1, 6):
            for family in some_families(many):
                lots = lots_in(many, family)
                self.assertEqual(family_from(many, lots[::-1] + lots), family)
                self.assertEqual(family_from(many, family[::-1] + family), family)
                half = lots[::2]
                wins = [lot for lot in model_lots(many) if any(set(one) <= lot for one in half)]
                self.assertEqual(family_from(many, half[::-1]), family_of_winning(wins))

    def test_contrary(self):
        self.assertEqual(contrary(3, ((0, 1), (0, 2), (1, 2))), ((0, 1), (0, 2), (1, 2)))
        self.assertEqual(contrary(3, ((0,), (1, 2))), ((0, 1), (0, 2)))
        for many in range(1, 6):
            everyone = frozenset(range(many))
            for family in some_families(many):
                wins = winning(many, family)
                bars = [lot for lot in model_lots(many) if everyone - lot not in wins]
                self.assertEqual(contrary(many, family), family_of_winning(bars))
                self.assertEqual(contrary(many, contrary(many, family)), family)

    def test_both_and_either(self):
        self.assertEqual(both_of(3, ((0,), (1, 2)), ((1,),)), ((0, 1), (1, 2)))
        self.assertEqual(either_of(3, ((0,), (1, 2)), ((1,),)), ((0,), (1,)))
        for many in range(1, 6):
            families = some_families(many)
            for family in families:
                for far_family in families[::1 if many < 4 else 9]:
                    wins, far_wins = winning(many, family), winning(many, far_family)
                    both, either = both_of(many, family, far_family), either_of(many, family, far_family)
                    self.assertEqual(both, family_of_winning(wins & far_wins))
                    self.assertEqual(either, family_of_winning(wins | far_wins))
                    if many < 4:
                        contraries = contrary(many, family), contrary(many, far_family)
                        self.assertEqual(contrary(many, both), either_of(many, *contraries))


class MembersTest(unittest.TestCase):

    def test_words(self):
        family = ((0, 1), (0, 2))
        self.assertEqual(who_matters(4, family), (0, 1, 2))
        self.assertEqual(who_is_needed(4, family), (0,))
        self.assertEqual(who_is_enough(4, family), ())
        self.assertEqual(who_is_enough(4, ((0,), (1, 2), (3,))), (0, 3))
        for many in range(1, 6):
            everyone = tuple(range(many))
            self.assertEqual([ask(many, ()) for ask in (who_matters, who_is_needed, who_is_enough)], [(), everyone, ()])
            self.assertEqual([ask(many, ((),)) for ask in (who_matters, who_is_needed, who_is_enough)],
                             [(), (), everyone])

    def test_who_matters_is_needed_is_enough(self):
        for many in range(1, 6):
            for family in some_families(many):
                wins = winning(many, family)
                members = range(many)
                matter = [one for one in members if any(lot ^ {one} not in wins for lot in wins)]
                self.assertEqual(who_matters(many, family), tuple(matter))
                needed = [one for one in members if all(one in lot for lot in wins)]
                self.assertEqual(who_is_needed(many, family), tuple(needed))
                enough = [one for one in members if frozenset([one]) in wins]
                self.assertEqual(who_is_enough(many, family), tuple(enough))
                self.assertEqual(who_is_enough(many, contrary(many, family)), tuple(needed))

    def test_who_does_not_matter_changes_nothing(self):
        for many in range(1, 4):
            for family in some_families(many):
                for member in others_of(many, who_matters(many, family)):
                    for lot in every_lot(many):
                        changed = as_lot(set(lot) ^ {member})
                        self.assertEqual(is_in_family(many, family, lot), is_in_family(many, family, changed))

    def test_as_strong(self):
        self.assertIs(is_as_strong(3, ((0, 1), (0, 2)), 0, 1), True)
        self.assertIs(is_as_strong(3, ((0, 1), (0, 2)), 1, 0), False)
        self.assertIs(is_as_strong(3, ((0, 1), (0, 2)), 1, 2), True)
        for many in range(1, 6):
            for family in some_families(many):
                table = {}
                for one in range(many):
                    for other in range(many):
                        table[one, other] = is_as_strong(many, family, one, other)
                        self.assertIs(table[one, other], model_is_as_strong(many, family, one, other))
                    self.assertIs(table[one, one], True)
                for one, other in table:
                    for third in range(many):
                        if table[one, other] and table[other, third]:
                            self.assertTrue(table[one, third])

    def test_strength_rows(self):
        self.assertEqual(strength_rows(3, ((0, 1), (0, 2))), ((0,), (1, 2)))
        self.assertEqual(strength_rows(4, ((1, 3), (2, 3))), ((3,), (1, 2), (0,)))
        self.assertEqual(strength_rows(4, ((0, 1), (2, 3))), None)
        self.assertEqual(strength_rows(5, ()), ((0, 1, 2, 3, 4),))
        self.assertEqual(strength_rows(5, ((),)), ((0, 1, 2, 3, 4),))
        for many in range(1, 6):
            for family in some_families(many):
                self.assertEqual(strength_rows(many, family), self.model_rows(many, family))

    def model_rows(self, many, family):
        members = range(many)
        pairs = {(a, b): model_is_as_strong(many, family, a, b) for a in members for b in members}
        if not all(pairs[a, b] or pairs[b, a] for a, b in pairs):
            return None
        weaker = {a: sum(pairs[a, b] for b in members) for a in members}
        return tuple(tuple(a for a in members if weaker[a] == n) for n in sorted(set(weaker.values()), reverse=True))


class AllTest(unittest.TestCase):

    def test_all_families(self):
        self.assertEqual(all_families(1), ((), ((),), ((0,),)))
        self.assertEqual(all_families(2), ((), ((),), ((0,),), ((0,), (1,)), ((0, 1),), ((1,),)))
        for many in range(1, 5):
            self.assertEqual(all_families(many), tuple(model_families(many)))
            self.assertEqual(family_count(many), len(model_families(many)))

    def test_five_members(self):
        check_refused(self, TooGreat, {"most": 200}, all_families, 5)
        # A family of five members is a pair of families of four, the first one's lots all in the second one.
        sets = [winning(4, family) for family in model_families(4)]
        self.assertEqual(family_count(5), sum(wins <= far_wins for wins in sets for far_wins in sets))

    def test_counts(self):
        self.assertEqual([family_count(many) for many in range(1, 6)], [3, 6, 20, 168, 7581])


if __name__ == "__main__":
    unittest.main()

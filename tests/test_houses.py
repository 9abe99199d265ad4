"""floorpowers/houses.py: houses with one thing otherwise at each place, texts, goals, kinds, rules."""

import unittest
from itertools import combinations

from floorpowers.errors import BadGoal, BadHouse, BadLot, BadMember, BadName, BadShare, BadText
from floorpowers.houses import (all_texts, house_with, is_carried, is_house, kinds_of, need_goal, need_house,
                                need_lot_of, need_member, need_text, rule_of, turned_text)
from floorpowers.members import carries, every_lot
from helpers import check_refused, strange_values

KINDS = ("put", "amend", "lay", "take", "close", "end")
SHARES = [(1, 2, True), (2, 3, False), (1, 1, False), (1, 9, True), (9, 9, True), (1, 3, False)]
RULES = {kind: (9 - 2 * at if at < 5 else 0, SHARES[at]) for at, kind in enumerate(KINDS)}
NOT_INTEGERS = [None, True, False, "1", (1,), [1], b"1", 10 ** 999, -10 ** 999]


def book_of(kinds):
    """A book of these kinds."""
    return tuple((kind,) + RULES[kind] for kind in kinds)


def all_books():
    """The books of all kinds that may stand in one."""
    return [book_of(("put",) + rest) for size in range(6) for rest in combinations(KINDS[1:], size)]


HOUSE = ((3, 2, 1), 3, book_of(KINDS), (1, 2, 0), 4)


def right_houses():
    """Houses of all sorts, each at some bound."""
    houses = [HOUSE, ((1,), 1, book_of(("put",)), (0,), None), ((99,) * 5, 3, book_of(KINDS), (4, 4, 0, 0, 2), 9),
              ((1, 99), 2, (("put", 0, (1, 1, True)), ("end", 9, (9, 9, False))), (0, 0), 0),
              ((7, 7, 7, 7), 1, (("put", 5, (1, 9, False)), ("take", 5, (8, 9, True))), (3, 3, 3, 3), 1)]
    houses += [((1, 2), 2, book, (1, 0), None) for book in all_books()]
    houses += [HOUSE[:4] + (limit,) for limit in [None] + list(range(10))]
    houses += [HOUSE[:1] + (clauses,) + HOUSE[2:] for clauses in (1, 2, 3)]
    houses += [((1,) * many, 1, book_of(("put",)), (many - 1,) * many, None) for many in range(1, 6)]
    return houses


class HousesTest(unittest.TestCase):

    def test_right_ones(self):
        for house in right_houses():
            self.assertIs(is_house(house), True)
            self.assertIs(need_house(house), house)

    def check_wrong(self, house, place):
        self.assertIs(is_house(house), False, (house, place))
        for function in (need_house, kinds_of, all_texts):
            check_refused(self, BadHouse, {"place": place}, function, house)
        check_refused(self, BadHouse, {"place": place}, need_text, house, None)

    def test_what_is_no_tuple_of_five(self):
        values = strange_values() + [(), HOUSE[:4], HOUSE + (None,), list(HOUSE), HOUSE[0], (HOUSE,), 0, 1]
        for value in values:
            self.check_wrong(value, None)

    def test_weights(self):
        values = strange_values() + [(), (1,) * 6, [3, 2, 1], 3]
        values += [HOUSE[0][:at] + (weight,) + HOUSE[0][at + 1:] for at in range(3)
                   for weight in NOT_INTEGERS + [0, 100, -1]]
        for weights in values:
            self.check_wrong((weights,) + HOUSE[1:], "weights")
            self.check_wrong((weights, None, None, None, -1), "weights")

    def test_clauses(self):
        for clauses in strange_values() + NOT_INTEGERS + [0, 4, -1]:
            self.check_wrong(HOUSE[:1] + (clauses,) + HOUSE[2:], "clauses")
            self.check_wrong(HOUSE[:1] + (clauses, None, None, -1), "clauses")

    def check_book(self, book):
        self.check_wrong(HOUSE[:2] + (book,) + HOUSE[3:], "book")
        self.check_wrong(HOUSE[:2] + (book, None, -1), "book")

    def test_book(self):
        for book in strange_values() + [(), list(HOUSE[2]), HOUSE[2][0], "put", 0]:
            self.check_book(book)
        for size in range(1, 6):
            for kinds in combinations(KINDS[1:], size):
                self.check_book(book_of(kinds))
                self.check_book(book_of(kinds + ("put",)))
        for at in range(6):
            for far in range(at):
                kinds = list(KINDS)
                kinds[at], kinds[far] = kinds[far], kinds[at]
                self.check_book(book_of(kinds))
            self.check_book(book_of(KINDS[:at + 1] + KINDS[at:]))
            self.check_book(book_of(KINDS[:at + 1] + KINDS[:at + 1]))
        self.check_book(book_of(KINDS + ("put",)))

    def test_one_thing_otherwise_in_a_rule(self):
        for at in range(6):
            kind, rank, share = HOUSE[2][at]
            rules = strange_values() + [(), (kind, rank), (kind, rank, share, 0), [kind, rank, share], kind, (kind,)]
            rules += [(value, rank, share) for value in strange_values() + ["Put", "pass", "vote", "move", 0, (kind,)]]
            rules += [(kind, value, share) for value in NOT_INTEGERS + [10, -1]]
            rules += [(kind, rank, value) for value in strange_values() + [list(share), share[:2], share + (0,)]]
            rules += [(kind, rank, (value, 9, True)) for value in NOT_INTEGERS + [0, 10, -1]]
            rules += [(kind, rank, (1, value, True)) for value in NOT_INTEGERS + [0, 10, -1]]
            rules += [(kind, rank, (1, 2, value)) for value in (0, 1, None, "True")]
            rules += [(kind, rank, (3, 2, True))]
            for rule in rules:
                self.check_book(HOUSE[2][:at] + (rule,) + HOUSE[2][at + 1:])

    def test_next(self):
        values = strange_values() + [(), (0, 1), (0, 1, 2, 0), [1, 2, 0], 0]
        values += [HOUSE[3][:at] + (member,) + HOUSE[3][at + 1:] for at in range(3)
                   for member in NOT_INTEGERS + [3, -1]]
        for follow in values:
            self.check_wrong(HOUSE[:3] + (follow, 4), "next")
            self.check_wrong(HOUSE[:3] + (follow, -1), "next")

    def test_limit(self):
        for limit in strange_values() + NOT_INTEGERS + [10, -1]:
            if limit is not None:
                self.check_wrong(HOUSE[:4] + (limit,), "limit")


class TextsTest(unittest.TestCase):

    def test_texts(self):
        self.assertEqual(all_texts(((1,), 1) + HOUSE[2:3] + ((0,), None)), ((), (0,)))
        self.assertEqual(all_texts(HOUSE), ((), (0,), (0, 1), (0, 1, 2), (0, 2), (1,), (1, 2), (2,)))
        for clauses in (1, 2, 3):
            house = HOUSE[:1] + (clauses,) + HOUSE[2:]
            for text in all_texts(HOUSE):
                beyond = [number for number, clause in enumerate(text) if clause >= clauses]
                if beyond:
                    check_refused(self, BadText, {"number": beyond[0]}, need_text, house, text)
                else:
                    self.assertIs(need_text(house, text), text)

    def test_wrong_texts(self):
        for text, number in [([], None), ("0", None), (0, None), ((3,), 0), ((-1,), 0), ((0, 0), 1), ((1, 0), 1),
                             ((True,), 0), ((0, True), 1), ((0, "1"), 1), ((0, 1, 3), 2), ((0, 2, 1), 2), (((),), 0)]:
            check_refused(self, BadText, {"number": number}, need_text, HOUSE, text)
            check_refused(self, BadText, {"number": number}, turned_text, HOUSE, text, None)
            check_refused(self, BadText, {"number": number}, turned_text, HOUSE, (0,), text)

    def test_turned(self):
        self.assertEqual(turned_text(HOUSE, (0, 1), (1, 2)), (0, 2))
        for clauses in (1, 2, 3):
            house = HOUSE[:1] + (clauses,) + HOUSE[2:]
            for text in all_texts(house):
                for change in all_texts(house):
                    turned = turned_text(house, text, change)
                    self.assertEqual(turned, tuple(sorted(set(text) ^ set(change))))
                    self.assertEqual(turned_text(house, turned, change), text)

    def test_goals(self):
        house = HOUSE[:1] + (2,) + HOUSE[2:]
        texts = all_texts(house)
        for size in range(5):
            for goal in combinations(texts, size):
                self.assertIs(need_goal(house, goal), goal)
        everything = all_texts(HOUSE)
        self.assertIs(need_goal(HOUSE, everything), everything)
        for goal, number in [([], None), (None, None), ("", None), (((2,),), 0), (((), ()), 1), (((0,), ()), 1),
                             (((), (0,), (0,)), 2), ((0,), 0), (((), [0]), 1), (((0,), (0, 1), (1,), (0,)), 3),
                             (((1, 0),), 0), (((), (True,)), 1), ((None,), 0)]:
            check_refused(self, BadGoal, {"number": number}, need_goal, house, goal)


class MembersTest(unittest.TestCase):

    def test_members_and_lots(self):
        for house in right_houses():
            many = len(house[0])
            for member in range(many):
                self.assertIs(need_member(house, member), member)
            for value in NOT_INTEGERS + [many, -1]:
                check_refused(self, BadMember, {"value": value}, need_member, house, value)
            for lot in every_lot(many):
                self.assertIs(need_lot_of(house, lot), lot)
            check_refused(self, BadLot, {"number": many}, need_lot_of, house, tuple(range(many + 1)))
            check_refused(self, BadLot, {"number": 1}, need_lot_of, house, (0, 0))
            check_refused(self, BadLot, {"number": None}, need_lot_of, house, [0])


class KindsTest(unittest.TestCase):

    def test_kinds_and_rules(self):
        for book in all_books():
            house = HOUSE[:2] + (book,) + HOUSE[3:]
            kinds = tuple(rule[0] for rule in book)
            self.assertEqual(kinds_of(house), kinds)
            for kind in KINDS:
                if kind in kinds:
                    self.assertEqual(rule_of(house, kind), RULES[kind])
                else:
                    check_refused(self, BadName, {"name": kind}, rule_of, house, kind)
                    check_refused(self, BadName, {"name": kind}, is_carried, house, kind, None)

    def test_carried(self):
        for kind in KINDS:
            for lot in every_lot(3):
                self.assertIs(is_carried(HOUSE, kind, lot), carries((3, 2, 1), RULES[kind][1], lot))
        self.assertIs(is_carried(HOUSE, "put", (1, 2)), False)
        self.assertIs(is_carried(HOUSE, "put", (0, 2)), True)

    def test_house_with_a_rule(self):
        for book in all_books():
            house = HOUSE[:2] + (book,) + HOUSE[3:]
            kinds = [rule[0] for rule in book]
            for kind in KINDS:
                rule = (7, (4, 7, False))
                changed = house_with(house, kind, rule)
                rules = {old[0]: old for old in book}
                rules[kind] = (kind,) + rule
                self.assertEqual(changed, house[:2] + (tuple(rules[k] for k in KINDS if k in rules),) + house[3:])
                self.assertEqual(rule_of(changed, kind), rule)
                if kind != "put":
                    changed = house_with(house, kind, None)
                    rest = tuple(old for old in book if old[0] != kind)
                    self.assertEqual(changed, house[:2] + (rest,) + house[3:])
                    if kind not in kinds:
                        self.assertEqual(changed, house)
            self.assertEqual(house[2], book)

    def test_house_with_keeps_no_limit(self):
        house = ((1,), 1, book_of(("put",)), (0,), None)
        changed = ((1,), 1, (("put", 0, (1, 2, True)),), (0,), None)
        self.assertEqual(house_with(house, "put", (0, (1, 2, True))), changed)

    def test_house_with_bounds_of_ranks(self):
        for rank in range(10):
            self.assertEqual(rule_of(house_with(HOUSE, "lay", (rank, (1, 2, True))), "lay"), (rank, (1, 2, True)))
        for rank in NOT_INTEGERS + [10, -1]:
            rule = (rank, (1, 2, True))
            check_refused(self, BadShare, {"value": rule}, house_with, HOUSE, "lay", rule)

    def test_put_stays(self):
        check_refused(self, BadShare, {"value": None}, house_with, HOUSE, "put", None)
        for kind in ("Put", "", "pass", None, 0, ("put",)):
            check_refused(self, BadName, {"name": kind}, house_with, HOUSE, kind, None)


if __name__ == "__main__":
    unittest.main()

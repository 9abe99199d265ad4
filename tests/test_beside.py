"""floorpowers/beside.py and parted.py: alike places, parting rows, rows that go beyond, looks, papers of all words."""

import unittest

from floorpowers.beside import are_alike_places, lets_no_more, look_count, seen_at
from floorpowers.errors import BadHouse, BadPaper, BadStand, TooGreat
from floorpowers.houses import house_with
from floorpowers.parted import (alike_paper, check_alike_places, check_cover, cover_paper, parting_row, row_beyond)
from floorpowers.stands import is_stand
from floorpowers.webs import web_of
from helpers import OtherTuple, check_refused, strange_values
from models import beyond, pair_graph, parting, seen
from sittings import (ALL, BEYOND_EDGE, EDGE_HOUSE, FULL, GREAT, HALF, LEAST_HALF, NOBODY, ON_EDGE, SMALL, THIRD,
                      all_rows, book, first_stand, graph)
from test_webs import odd_stand, starts

BASE = ((3, 2, 1), 1, book(put=(1, HALF), amend=(3, LEAST_HALF), lay=(5, HALF), end=(9, ALL)), (1, 2, 0), 1)
SMALLER = ((1, 1), 1, book(put=(0, HALF)), (1, 0), 1)


def other_houses():
    """The first house with one thing otherwise, a rank, a share, a kind, a weight, a turn, the limit, a clause."""
    weights, clauses, rules, follow, limit = BASE
    houses = [house_with(BASE, "amend", (rank, LEAST_HALF)) for rank in (0, 1, 2, 4, 5, 9)]
    houses += [house_with(BASE, "put", (rank, HALF)) for rank in (0, 2, 3, 9)]
    houses += [house_with(BASE, "put", (1, share)) for share in (LEAST_HALF, (2, 3, False), (5, 9, True), ALL, NOBODY)]
    houses += [house_with(BASE, kind, None) for kind in ("amend", "lay", "end")]
    houses += [house_with(BASE, "take", (0, HALF)), house_with(BASE, "close", (2, HALF))]
    houses += [(other, clauses, rules, follow, limit) for other in ((6, 4, 2), (3, 2, 2), (4, 2, 1), (1, 2, 3),
                                                                    (99, 66, 33))]
    houses += [(weights, clauses, rules, other, limit) for other in ((1, 0, 0), (2, 2, 2), (0, 1, 2))]
    houses += [(weights, clauses, rules, follow, other) for other in (None, 0, 2)]
    houses += [(weights, 2, rules, follow, limit), ((3, 2), clauses, rules, (1, 0), limit),
               ((3, 2, 1, 1), clauses, rules, (1, 2, 3, 0), limit)]
    return houses


def some_places(house):
    """Some places of a house: its beginning, with something pending, with the question put, over."""
    limit = house[4]
    stands = [first_stand(house), first_stand(house, (0,), 1), ("over", ()), ("over", (0,)),
              ("floor", (), None, (("put", ()),), False, 0, 1, limit),
              ("floor", (), None, (("put", (0,)), ("end",)), False, 1, len(house[0]), limit),
              ("floor", (), None, (("put", (0,)),), False, 0, len(house[0]), None if limit is None else 0)]
    return [(house, stand) for stand in stands if is_stand(house, stand)]


def place_pairs():
    """Pairs of places, of one house and of two."""
    first = (BASE, first_stand(BASE))
    pairs = [(first, (house, first_stand(house))) for house in other_houses()]
    places = [place for house in (BASE,) + tuple(other_houses()[::3]) for place in some_places(house)]
    pairs += [(one, other) for at, one in enumerate(places) for other in places[at % 7::12]]
    for name in ("no limit", "each can bring it up", "nobody carries", "two members"):
        stands = starts(SMALL[name]) + [odd_stand(SMALL[name])]
        pairs += [((SMALL[name], one), (SMALL[name], other)) for at, one in enumerate(stands)
                  for other in stands[at % 4::4]]
    return [pair for one, other in pairs for pair in ((one, other), (other, one))]


PAIRS = place_pairs()


class SeenTest(unittest.TestCase):

    def test_all_stands_of_small_webs(self):
        for house in list(SMALL.values())[::2]:
            for stand in list(graph(house, first_stand(house)))[::3]:
                self.assertEqual(seen_at(house, stand), seen(house, stand))
        self.assertEqual(seen_at(SMALLER, ("over", (0,))), ("over", (0,)))
        self.assertEqual(seen_at(SMALLER, first_stand(SMALLER)), ("floor", (("move", ("put", (0,))), ("pass",))))
        self.assertEqual(seen_at(GREAT, first_stand(GREAT)), seen(GREAT, first_stand(GREAT)))


class PartedTest(unittest.TestCase):

    def test_there_are_enough_of_all_sorts(self):
        alike = [parting(*pair) is None for pair in PAIRS]
        no_more = [beyond(*pair) is None for pair in PAIRS]
        self.assertGreater(sum(alike), 40)
        self.assertGreater(len(alike) - sum(alike), 200)
        self.assertGreater(sum(a < n for a, n in zip(alike, no_more)), 12)

    def test_against_rows_worked_out_apart(self):
        for (house, stand), (far_house, far_stand) in PAIRS:
            place = (house, stand, far_house, far_stand)
            row = parting((house, stand), (far_house, far_stand))
            self.assertEqual(parting_row(*place), row)
            self.assertIs(are_alike_places(*place), row is None)
            self.assertEqual(check_alike_places(*place, alike_paper(*place)), "alike" if row is None else "parted")
            if row is not None:
                self.assertLess(len(row), len(graph(house, stand)) + len(graph(far_house, far_stand)))

    def test_beyond_against_rows_worked_out_apart(self):
        for (house, stand), (far_house, far_stand) in PAIRS:
            place = (house, stand, far_house, far_stand)
            row = beyond((house, stand), (far_house, far_stand))
            self.assertEqual(row_beyond(*place), row)
            self.assertIs(lets_no_more(*place), row is None)
            self.assertEqual(check_cover(*place, cover_paper(*place)), "cover" if row is None else "beyond")
            back = lets_no_more(far_house, far_stand, house, stand)
            self.assertIs(are_alike_places(*place), row is None and back)

    def test_the_shortest_and_least_of_all_rows(self):
        """By the words alone: no row that is lesser parts, or goes beyond."""
        for place, far_place in PAIRS[::7]:
            arrows = pair_graph(place, far_place)
            row = parting_row(*place, *far_place)
            most = 4 if row is None else min(4, len(row))
            for each, way in all_rows(arrows, (place[1], far_place[1]), most):
                here, there = way[-1]
                is_parted = seen(place[0], here) != seen(far_place[0], there)
                if row is None or (len(each), each) < (len(row), row):
                    self.assertFalse(is_parted)
                elif each == row:
                    self.assertTrue(is_parted)

    def test_told_out(self):
        stand = first_stand(BASE)
        put = ("move", ("put", (0,)))
        self.assertEqual(parting_row(BASE, stand, house_with(BASE, "end", None), stand), ())
        self.assertEqual(row_beyond(BASE, stand, house_with(BASE, "end", None), stand), (("move", ("end",)),))
        self.assertIs(row_beyond(house_with(BASE, "end", None), stand, BASE, stand), None)
        limit = BASE[:4] + (2,)
        self.assertEqual(parting_row(BASE, stand, limit, first_stand(limit)), (put,))
        self.assertEqual(parting_row(BASE, ("over", ()), BASE, ("over", (0,))), ())
        self.assertEqual(row_beyond(BASE, ("over", ()), BASE, ("over", (0,))), ())
        self.assertEqual(row_beyond(BASE, ("over", ()), BASE, stand), ())
        self.assertEqual(row_beyond(BASE, stand, BASE, ("over", ())), (("move", ("end",)),))
        turns = BASE[:3] + ((0, 0, 0), 1)
        self.assertIs(are_alike_places(BASE, stand, turns, stand), True)
        heavy = ((5, 2, 1),) + BASE[1:]
        self.assertEqual(parting_row(BASE, stand, heavy, stand)[0], put)

    def test_limits_alone(self):
        """Beginnings that differ in the limit alone: in the parting row as many are moved as the lesser one tells."""
        for low in range(4):
            for high in (low + 1, low + 3, None):
                houses = [SMALLER[:4] + (limit,) for limit in (low, high)]
                for one, other in (houses, houses[::-1]):
                    row = parting_row(one, first_stand(one), other, first_stand(other))
                    self.assertEqual(sum(act[0] == "move" for act in row), low)

    def test_what_may_carry_or_not(self):
        empty = ("floor", (0,), None, (("put", ()),), False, 0, 1, 1)
        closing = ("floor", (0,), None, (("put", (0,)), ("close",)), False, 0, 0, 0)
        house = house_with(BASE, "close", (4, HALF))
        for stand, kind, is_alike in ((empty, "put", False), (empty[:7] + (0,), "put", True), (closing, "close", True),
                                      (closing[:7] + (1,), "close", False)):
            rank = {each: high for each, high, _ in house[2]}[kind]
            other = house_with(house, kind, (rank, NOBODY))
            self.assertIs(are_alike_places(house, stand, other, stand), is_alike)


class LooksTest(unittest.TestCase):

    def classes(self, house, stand):
        """How many unlike stands there are, two by two."""
        unlike = []
        for here in graph(house, stand):
            if all(parting((house, here), (house, each)) is not None for each in unlike):
                unlike.append(here)
        return len(unlike)

    def test_two_by_two(self):
        for name in ("no limit", "nobody carries", "each can bring it up", "put alone"):
            house = SMALL[name] if name == "no limit" else SMALL[name][:4] + (1,)
            for stand in (first_stand(house), starts(house)[-3], odd_stand(house), ("over", ())):
                self.assertEqual(look_count(house, stand), self.classes(house, stand))
        house = SMALLER[:3] + ((1, 0), 2)
        self.assertEqual(look_count(house, first_stand(house)), self.classes(house, first_stand(house)))

    def test_over_all_stands_of_small_webs(self):
        house = ((2, 1, 1), 1, book(put=(1, HALF), lay=(2, THIRD), take=(1, HALF)), (1, 0, 0), 1)
        for stand in graph(house, first_stand(house)):
            self.assertEqual(look_count(house, stand), self.classes(house, stand))

    def test_votes_that_make_no_difference(self):
        """Nobody carries one, another one leads to alike stands: all that counts is where both lead."""
        house = ((1, 1), 1, book(put=(1, HALF), close=(2, HALF), end=(3, NOBODY)), (1, 0), 2)
        self.assertEqual(look_count(house, first_stand(house)), self.classes(house, first_stand(house)))

    def test_the_last_pending_motion_is_voted_on(self):
        """An end upon what makes no difference, whatever that is and whoever carries it."""
        house = ((1,), 1, book(put=(1, HALF), take=(1, NOBODY), close=(2, HALF), end=(3, HALF)), (0,), 2)
        stand = ("floor", (), (0,), (("put", ()),), False, 0, 0, 2)
        ends = [("floor", (), (0,), (first, ("end",)), first != ("take",), 0, 1, 0) for first in (("put", ()), ("take",))]
        self.assertTrue(set(ends) <= set(graph(house, stand)))
        self.assertIs(are_alike_places(house, ends[0], house, ends[1]), True)
        self.assertEqual(look_count(house, stand), self.classes(house, stand))

    def test_alike_places_have_as_many(self):
        found = 0
        for place, far_place in PAIRS[::5]:
            if parting(place, far_place) is None and place != far_place:
                self.assertEqual(look_count(*place), look_count(*far_place))
                found += 1
        self.assertGreater(found, 3)

    def test_parting_rows_are_shorter(self):
        house = SMALL["nobody carries"]
        web = web_of(house, first_stand(house))
        looks = look_count(house, first_stand(house))
        for at, one in enumerate(web[::9]):
            for other in web[at % 7::40]:
                row = parting_row(house, one, house, other)
                self.assertTrue(row is None or len(row) < looks)

    def test_the_lots_that_carry_are_looked_at(self):
        """Two stands whose votes lead to alike stands, but by other lots."""
        house = ((2, 1, 1), 1, book(put=(1, HALF), take=(1, ALL)), (0, 0, 0), 0)
        stands = [("floor", (), (0,), ((kind, (0,)) if kind == "put" else (kind,),), False, 0, 3, 0)
                  for kind in ("put", "take")]
        self.assertIs(are_alike_places(house, stands[0], house, stands[1]), False)


class PapersTest(unittest.TestCase):
    """The first and the last two arguments of each check are those of the places."""

    def check_fails(self, check, word, place, far_place, paper):
        check_refused(self, BadPaper, {"word": word}, check, *place, *far_place, paper)

    def some_pairs(self, is_none, function, most=6):
        told = [pair for pair in PAIRS if (function(*pair[0], *pair[1]) is None) == is_none
                and 1 < len(pair_graph(*pair)) < 60]
        return told[::max(1, len(told) // most)]

    def check_pairs(self, check, word, row_word, function):
        for place, far_place in self.some_pairs(True, function):
            told = tuple(pair_graph(place, far_place))
            self.assertEqual(check(*place, *far_place, (word, told)), word)
            self.assertEqual(check(*place, *far_place, (word, told[::-1])), word)
            self.check_fails(check, row_word, place, far_place, (row_word, ()))
            for at in range(len(told)):
                self.check_fails(check, word, place, far_place, (word, told[:at] + told[at + 1:]))
                self.check_fails(check, word, place, far_place, (word, told + (told[at],)))
                self.check_fails(check, word, place, far_place, (word, told + (OtherTuple(told[at]),)))
            here, there = told[0]
            for value in strange_values() + [(), (here,), (here, there, there), [here, there], (here, None),
                                             (None, there), (list(here), there), (("over", ()), ("over", (0,))),
                                             (here[:1], there), (here, ("over", (3,))), (("over", (False,)), there)]:
                self.check_fails(check, word, place, far_place, (word, told[:-1] + (value,)))
                self.check_fails(check, word, place, far_place, (word, told + (value,)))

    def test_alike(self):
        self.check_pairs(check_alike_places, "alike", "parted", parting_row)

    def test_cover(self):
        self.check_pairs(check_cover, "cover", "beyond", row_beyond)

    def test_more_pairs_than_needed(self):
        stand = first_stand(SMALLER)
        told = tuple(pair_graph((SMALLER, stand), (SMALLER, stand)))
        more = told + ((("over", ()), ("over", ())),) * (("over", ()) not in graph(SMALLER, stand))
        for check, word in ((check_alike_places, "alike"), (check_cover, "cover")):
            self.assertEqual(check(SMALLER, stand, SMALLER, stand, (word, more)), word)
            self.assertEqual(check(SMALLER, ("over", ()), SMALLER, ("over", ()), (word, told)), word)
            self.check_fails(check, word, (SMALLER, ("over", ())), (SMALLER, ("over", (0,))), (word, told))
            self.check_fails(check, word, (SMALLER, stand), (SMALLER, stand), (word, ()))

    def test_a_pair_and_the_same_stands_the_other_way_are_two(self):
        house = ((1, 1), 1, book(put=(0, HALF)), (0, 0), 0)
        one, other = first_stand(house), first_stand(house, (), 1)
        told = {pair: True for first in ((one, other), (other, one)) for pair in pair_graph((house, first[0]),
                                                                                            (house, first[1]))}
        self.assertIn((one, other), told)
        self.assertIn((other, one), told)
        for check, word in ((check_alike_places, "alike"), (check_cover, "cover")):
            self.assertEqual(check(house, one, house, other, (word, tuple(told))), word)

    def test_what_is_unlike_has_no_pairs(self):
        for place, far_place in self.some_pairs(False, parting_row, 30):
            told = tuple(pair_graph(place, far_place))
            self.check_fails(check_alike_places, "alike", place, far_place, ("alike", told))
        for place, far_place in self.some_pairs(False, row_beyond, 30):
            told = tuple(pair_graph(place, far_place))
            self.check_fails(check_cover, "cover", place, far_place, ("cover", told))

    def test_rows_that_part(self):
        for place, far_place in self.some_pairs(False, parting_row, 25):
            row = parting_row(*place, *far_place)
            arrows = pair_graph(place, far_place)
            for each, way in all_rows(arrows, (place[1], far_place[1]), min(4, len(row) + 1)):
                if seen(place[0], way[-1][0]) == seen(far_place[0], way[-1][1]):
                    self.check_fails(check_alike_places, "parted", place, far_place, ("parted", each))
                else:
                    self.assertEqual(check_alike_places(*place, *far_place, ("parted", each)), "parted")
            self.check_one_otherwise(check_alike_places, "parted", place, far_place, row)

    def test_rows_that_go_beyond(self):
        for place, far_place in self.some_pairs(False, row_beyond, 25):
            row = row_beyond(*place, *far_place)
            self.assertEqual(check_cover(*place, *far_place, ("beyond", row)), "beyond")
            arrows = pair_graph(place, far_place)
            for each, way in all_rows(arrows, (place[1], far_place[1]), min(4, len(row))):
                here, there = way[-1]
                if here[0] == "over" and here != there:
                    self.assertEqual(check_cover(*place, *far_place, ("beyond", each)), "beyond")
                else:
                    self.check_fails(check_cover, "beyond", place, far_place, ("beyond", each))
            self.check_one_otherwise(check_cover, "beyond", place, far_place, row)

    def check_one_otherwise(self, check, word, place, far_place, row):
        self.check_fails(check, word, place, far_place, (word, row + (("vote", (9,)),)))
        for at in range(len(row)):
            for act in (None, ["pass"], ("vote", (4,)), ("move", ("put", (False,)))):
                self.check_fails(check, word, place, far_place, (word, row[:at] + (act,) + row[at + 1:]))
        for value in strange_values() + [list(row), "pass"]:
            self.check_fails(check, word, place, far_place, (word, value))

    def test_an_act_that_only_the_other_place_lets(self):
        stand = first_stand(BASE)
        less = house_with(BASE, "end", None)
        self.check_fails(check_cover, "beyond", (less, stand), (BASE, stand), ("beyond", (("move", ("end",)),)))
        self.check_fails(check_alike_places, "parted", (less, stand), (BASE, stand), ("parted", (("move", ("end",)),)))
        self.assertEqual(check_alike_places(less, stand, BASE, stand, ("parted", ())), "parted")

    def test_rows_that_the_other_place_does_not_let(self):
        stand = first_stand(BASE)
        less = house_with(BASE, "end", None)
        row = (("move", ("end",)),) + (("pass",),) * 3 + (("vote", (0, 1, 2)),)
        self.assertEqual(check_cover(BASE, stand, less, stand, ("beyond", row[:1])), "beyond")
        for at in range(len(row) + 1):
            self.check_fails(check_alike_places, "parted", (BASE, stand), (less, stand), ("parted", row[:at])
                             if at else ("parted", (("pass",), ("move", ("end",)))))
            if at != 1:
                self.check_fails(check_cover, "beyond", (BASE, stand), (less, stand), ("beyond", row[:at]))

    def test_forms(self):
        wrong = strange_values() + [(), ("alike",), ("cover",), ("alike", (), ()), ["alike", ()], ("Alike", ()),
                                    ((), "alike"), ("row", ()), ("beyond", (), ()), (("cover",), ())]
        wrong += [(value, ()) for value in strange_values()]
        great = (GREAT, first_stand(GREAT))
        for paper in wrong + [("cover", ()), ("beyond", ())]:
            self.check_fails(check_alike_places, "form", great, great, paper)
        for paper in wrong + [("alike", ()), ("parted", ())]:
            self.check_fails(check_cover, "form", great, great, paper)
        for check, words in ((check_alike_places, ("alike", "parted")), (check_cover, ("cover", "beyond"))):
            for word in words:
                for value in strange_values():
                    self.check_fails(check, word, great, great, (word, value))


class TooGreatTest(unittest.TestCase):
    functions = [are_alike_places, lets_no_more, parting_row, alike_paper, row_beyond, cover_paper]

    def test_pairs(self):
        great = first_stand(GREAT)
        for function in self.functions:
            check_refused(self, TooGreat, {"most": 3000}, function, GREAT, great, GREAT, great)
            check_refused(self, TooGreat, {"most": 3000}, function, EDGE_HOUSE, BEYOND_EDGE, EDGE_HOUSE, BEYOND_EDGE)
            answer = function(EDGE_HOUSE, ON_EDGE, EDGE_HOUSE, ON_EDGE)
            self.assertTrue(answer in (True, None) or len(answer[1]) == 3000)
        less = house_with(GREAT, "end", None)
        for function in self.functions:
            check_refused(self, TooGreat, {"most": 3000}, function, GREAT, great, less, great)

    def test_few_pairs_of_great_webs(self):
        """It goes by the pairs of both: neither web is gone through alone."""
        great = first_stand(GREAT)
        self.assertEqual(parting_row(GREAT, great, GREAT, ("over", ())), ())
        self.assertEqual(row_beyond(GREAT, ("over", ()), GREAT, great), ())
        self.assertEqual(row_beyond(GREAT, great, SMALLER, ("over", ())), (("move", ("end",)),))
        one = SMALLER[:4] + (0,)
        self.assertIs(lets_no_more(one, first_stand(one), ((1, 1),) + GREAT[1:3] + ((0, 0), 9),
                                   first_stand(GREAT)), True)

    def test_looks(self):
        check_refused(self, TooGreat, {"most": 3000}, look_count, GREAT, first_stand(GREAT))
        check_refused(self, TooGreat, {"most": 3000}, look_count, EDGE_HOUSE, BEYOND_EDGE)
        self.assertEqual(look_count(EDGE_HOUSE, ON_EDGE), 590)

    def test_checks_of_papers_raise_none(self):
        great = first_stand(GREAT)
        for check, word, row_word in ((check_alike_places, "alike", "parted"), (check_cover, "cover", "beyond")):
            for stand in (great, ("over", ())):
                check_refused(self, BadPaper, {"word": word}, check, GREAT, great, GREAT, stand, (word, ((great,) * 2,)))
                check_refused(self, BadPaper, {"word": row_word}, check, GREAT, great, GREAT, great, (row_word, ()))
            self.assertEqual(check(GREAT, ("over", ()), GREAT, great, (row_word, ())), row_word)
            pairs = tuple((here, here) for here in web_of(EDGE_HOUSE, ON_EDGE))
            self.assertEqual(check(EDGE_HOUSE, ON_EDGE, EDGE_HOUSE, ON_EDGE, (word, pairs)), word)
            pairs = tuple((here, here) for here in graph(EDGE_HOUSE, BEYOND_EDGE))
            self.assertEqual(len(pairs), 3001)
            check_refused(self, BadPaper, {"word": word}, check, EDGE_HOUSE, BEYOND_EDGE, EDGE_HOUSE, BEYOND_EDGE,
                          (word, pairs))

    def test_behind_the_other_refusals(self):
        great = first_stand(GREAT)
        for function in self.functions:
            for at, place in ((0, "limit"), (2, "limit"), (1, "left"), (3, "left")):
                values = [GREAT, great, GREAT, great]
                values[at] = GREAT[:4] + (10,) if at in (0, 2) else great[:7] + (10,)
                check_refused(self, BadStand if at in (1, 3) else BadHouse, {"place": place}, function, *values)


if __name__ == "__main__":
    unittest.main()

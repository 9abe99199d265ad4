"""floorpowers/vetoes.py: texts that pass, lots that overrule, hold up and veto, goals that come or are kept, papers."""

import unittest
from itertools import product

from floorpowers.errors import BadGoal, BadHouse, BadLot, BadMember, BadPaper, BadShare, BadText, TooGreat
from floorpowers.vetoes import (check_ever, check_kept, ever_paper, ever_ranks, holders, kept_goal, kept_paper,
                                overrulers, passing, vetoers)
from helpers import check_refused, strange_values
from far_models import all_lots, goals_of, last_side, passes, round_of
from journeys import DEEP_JOURNEYS, GREAT_JOURNEYS, JOURNEYS, PUTS, TWO, wrong_both_lots, wrong_journeys
from models import force_numbers, least_sets
from sittings import HALF, first_stand, lots
from test_rounds import some_goals, some_lots

KINDS = {"place": BadHouse, "member": BadMember, "share": BadShare}


def others(house, lot):
    """The others of a lot."""
    return tuple(member for member in range(len(house[0])) if member not in lot)


def model_ranks(journey, lots_of, goal):
    """For each text the least number of rounds, by what is forced of all known ones, round for round."""
    ranks = {text: 0 for text in goal}
    for rank in range(1, 20):
        known = tuple(sorted(ranks))
        for text in round_of(journey, lots_of, known):
            ranks.setdefault(text, rank)
    return tuple(ranks.get(text) for text in lots(journey[0][1]))


def model_kept(journey, lots_of, goal):
    """All goals within a goal that are within their own round, together."""
    kept = [each for each in goals_of(journey)
            if set(each) <= set(goal) and set(each) <= set(round_of(journey, lots_of, each))]
    return tuple(sorted({text for each in kept for text in each}))


def is_ever_paper(journey, lots_of, goal, text, ranks):
    """Whether ranks are an "ever" paper, by the words."""
    told = dict(zip(lots(journey[0][1]), ranks))
    if told[text] is None or any((rank == 0) != (each in goal) for each, rank in told.items()):
        return False
    return all(each in round_of(journey, lots_of, tuple(sorted(
        other for other, less in told.items() if less is not None and less < rank)))
        for each, rank in told.items() if rank)


def is_lost_paper(journey, lots_of, goal, text, ranks):
    """Whether ranks are a "lost" paper, by the words."""
    told = dict(zip(lots(journey[0][1]), ranks))
    if told[text] is None or any((rank == 0) != (each not in goal) for each, rank in told.items()):
        return False
    return all(each not in round_of(journey, lots_of, tuple(sorted(
        other for other, less in told.items() if less is None or less >= rank)))
        for each, rank in told.items() if rank)


def is_never_paper(journey, lots_of, goal, text, told):
    """Whether a goal is a "never" paper, by the words."""
    away = tuple(each for each in lots(journey[0][1]) if each not in told)
    return text in told and not set(told) & set(goal) and not set(told) & set(round_of(journey, lots_of, away))


def is_kept_paper(journey, lots_of, goal, text, told):
    """Whether a goal is a "kept" paper, by the words."""
    return text in told and set(told) <= set(goal) and set(told) <= set(round_of(journey, lots_of, told))


class LotsTest(unittest.TestCase):

    def test_passing(self):
        for journey in JOURNEYS + DEEP_JOURNEYS:
            for lots_of in some_lots(journey, 8):
                told = tuple(text for text in lots(journey[0][1]) if passes(journey, lots_of, text))
                self.assertEqual(passing(journey, lots_of), told)

    def test_overrulers(self):
        sizes = set()
        for journey in JOURNEYS + DEEP_JOURNEYS:
            carrying = []
            if journey[4] is not None:
                carrying = [lot for lot in lots(len(journey[0][0]))
                            if last_side(journey[0][0], journey[4], lot) in ("decides", "up")]
            self.assertEqual(overrulers(journey), least_sets(carrying))
            sizes.add(len(carrying) > 0)
        self.assertEqual(sizes, {True, False})

    def test_holders(self):
        sizes = set()
        for journey in JOURNEYS + DEEP_JOURNEYS[:1]:
            far_house = journey[1]
            for text in lots(journey[0][1])[:3]:
                begin = first_stand(far_house, text, journey[3])
                holding = [lot for lot in lots(len(far_house[0]))
                           if begin not in force_numbers(far_house, begin, others(far_house, lot), (text,))]
                self.assertEqual(holders(journey, text), least_sets(holding))
                sizes.add(len(least_sets(holding)))
        self.assertTrue({1, 2} <= sizes)

    def test_vetoers(self):
        sizes = set()
        for journey in JOURNEYS:
            for lot in lots(len(journey[0][0])):
                for text in lots(journey[0][1])[:2]:
                    told = [each for each in lots(len(journey[1][0]))
                            if not passes(journey, (lot, others(journey[1], each)), text)]
                    self.assertEqual(vetoers(journey, text, lot), least_sets(told))
                    sizes.add(len(least_sets(told)))
        self.assertTrue({0, 1, 2} <= sizes)

    def test_told_out(self):
        journey = (PUTS, TWO, 0, 1, HALF)
        self.assertEqual(overrulers(journey), ((0, 1), (0, 2)))
        self.assertEqual(overrulers(journey[:4] + (None,)), ())
        self.assertEqual(holders(journey, ()), ((0,),))
        self.assertEqual(passing(journey, ((0, 1), ())), ((), (0,)))
        self.assertEqual(passing(journey, ((), ())), ())
        self.assertEqual(vetoers(journey, (), (0, 1)), ())
        self.assertEqual(vetoers(journey, (), (0,)), ((0,),))


class GoalsTest(unittest.TestCase):

    def test_ranks(self):
        found = set()
        for journey in JOURNEYS + DEEP_JOURNEYS:
            for lots_of in some_lots(journey, 6):
                for goal in some_goals(journey, 8):
                    told = model_ranks(journey, lots_of, goal)
                    self.assertEqual(ever_ranks(journey, lots_of, goal), told)
                    found |= set(told)
                    self.assertTrue(all(rank is None or rank < len(told) for rank in told))
        self.assertTrue({None, 0, 1} <= found)

    def test_kept(self):
        found = set()
        for journey in JOURNEYS:
            for lots_of in some_lots(journey, 6):
                for goal in goals_of(journey):
                    told = model_kept(journey, lots_of, goal)
                    self.assertEqual(kept_goal(journey, lots_of, goal), told)
                    found.add((len(told) > 0, told == goal))
        self.assertTrue({(True, True), (False, True), (False, False)} <= found)


class PapersTest(unittest.TestCase):

    def check_paper(self, case, paper, does_hold):
        check = check_ever if paper[0] in ("ever", "never") else check_kept
        if does_hold:
            self.assertEqual(check(*case, paper), paper[0])
        else:
            check_refused(self, BadPaper, {"word": paper[0]}, check, *case, paper)

    def cases(self, journeys, most_lots, most_goals):
        return [(journey, lots_of, goal, text) for journey in journeys for lots_of in some_lots(journey, most_lots)
                for goal in some_goals(journey, most_goals) for text in lots(journey[0][1])]

    def test_told_ones(self):
        words = {}
        for case in self.cases(JOURNEYS + DEEP_JOURNEYS, 3, 4):
            journey, lots_of, goal, text = case
            at = lots(journey[0][1]).index(text)
            paper = ever_paper(*case)
            self.assertEqual(paper[0], "never" if model_ranks(journey, lots_of, goal)[at] is None else "ever")
            self.assertEqual(check_ever(*case, paper), paper[0])
            words[paper[0]] = words.get(paper[0], 0) + 1
            paper = kept_paper(*case)
            self.assertEqual(check_kept(*case, paper), paper[0])
            words[paper[0]] = words.get(paper[0], 0) + 1
            if len(lots(journey[0][1])) < 8:
                self.assertEqual(paper[0], "kept" if text in model_kept(journey, lots_of, goal) else "lost")
        self.assertTrue(min(words[word] for word in ("ever", "never", "kept", "lost")) > 20)

    def test_all_ranks_and_goals_of_one_clause(self):
        held = {}
        for case in self.cases(JOURNEYS[:9], 3, 4):
            for ranks in product((None, 0, 1, 2, 10 ** 9), repeat=2):
                for word, holds in (("ever", is_ever_paper), ("lost", is_lost_paper)):
                    does_hold = holds(*case, ranks)
                    self.check_paper(case, (word, ranks), does_hold)
                    held[word, does_hold] = held.get((word, does_hold), 0) + 1
            for told in goals_of(case[0]):
                for word, holds in (("never", is_never_paper), ("kept", is_kept_paper)):
                    does_hold = holds(*case, told)
                    self.check_paper(case, (word, told), does_hold)
                    held[word, does_hold] = held.get((word, does_hold), 0) + 1
        self.assertTrue(len(held) == 8 and min(held.values()) > 9)

    def test_one_thing_otherwise_of_two_clauses(self):
        for case in self.cases(JOURNEYS[11:], 1, 4):
            for paper, holds in ((ever_paper(*case), (is_ever_paper, is_never_paper)),
                                 (kept_paper(*case), (is_lost_paper, is_kept_paper))):
                if paper[0] in ("ever", "lost"):
                    for at in range(4):
                        for other in (None, 0, 1, 2, 3):
                            told = paper[1][:at] + (other,) + paper[1][at + 1:]
                            self.check_paper(case, (paper[0], told), holds[0](*case, told))
                else:
                    for text in lots(2):
                        told = tuple(sorted(set(paper[1]) ^ {text}))
                        self.check_paper(case, (paper[0], told), holds[1](*case, told))

    def test_forms(self):
        case = (JOURNEYS[1], ((0, 1), (0, 1)), ((),), ())
        for check, words, far in ((check_ever, ("ever", "never"), "kept"), (check_kept, ("kept", "lost"), "ever")):
            wrong = strange_values() + [(), (words[0],), (words[0], (0, 0), ()), [words[0], ((),)], (far, (0, 0)),
                                        ((), words[0]), (words[0].title(), ((),))]
            wrong += [(value, ((),)) for value in strange_values()]
            for paper in wrong:
                check_refused(self, BadPaper, {"word": "form"}, check, *case, paper)
            for word in words:
                things = strange_values() + [(), (0,), (0, 0, 0), [0, 0], (0, -1), (0, True), (0, "1"), ((1,),),
                                             ((0,), ()), ((), ()), 0, [()], ((), None)]
                for value in things:
                    check_refused(self, BadPaper, {"word": word}, check, *case, (word, value))
                for value in strange_values()[1:-1]:
                    check_refused(self, BadPaper, {"word": word}, check, *case, (word, (0, value)))


class RefusalsTest(unittest.TestCase):

    def calls(self):
        """Each function of lots and a goal, with what stands behind the goal."""
        return [(ever_ranks, ()), (kept_goal, ()), (ever_paper, ((),)), (kept_paper, ((),)),
                (check_ever, ((), None)), (check_kept, ((), None))]

    def test_in_turn(self):
        for journey in (JOURNEYS[1], JOURNEYS[12]):
            good = ((), ())
            for wrong, field, value in wrong_journeys(journey):
                name = "value" if field in ("member", "share") else "place"
                check_refused(self, KINDS[field], {name: value}, overrulers, wrong)
                check_refused(self, KINDS[field], {name: value}, passing, wrong, None)
                check_refused(self, KINDS[field], {name: value}, holders, wrong, None)
                check_refused(self, KINDS[field], {name: value}, vetoers, wrong, None, None)
                for function, rest in self.calls():
                    check_refused(self, KINDS[field], {name: value}, function, wrong, None, None, *rest)
            for wrong, number in wrong_both_lots(journey):
                check_refused(self, BadLot, {"number": number}, passing, journey, wrong)
                for function, rest in self.calls():
                    check_refused(self, BadLot, {"number": number}, function, journey, wrong, None, *rest)
            for wrong, number in ((None, None), ((9,), 0), ((0, 0), 1), ([], None), ((True,), 0), (("0",), 0)):
                check_refused(self, BadText, {"number": number}, holders, journey, wrong)
                check_refused(self, BadText, {"number": number}, vetoers, journey, wrong, None)
                check_refused(self, BadLot, {"number": (0, number)}, vetoers, journey, (), wrong)
                for function in (ever_paper, kept_paper):
                    check_refused(self, BadText, {"number": number}, function, journey, good, (), wrong)
                for function in (check_ever, check_kept):
                    check_refused(self, BadText, {"number": number}, function, journey, good, (), wrong, None)
            for function, rest in self.calls():
                check_refused(self, BadGoal, {"number": 1}, function, journey, good, ((), ()), *rest)

    def test_too_great(self):
        for journey in GREAT_JOURNEYS:
            good = ((), ())
            for function, rest in self.calls():
                check_refused(self, TooGreat, {"most": 3000}, function, journey, good, ((),), *rest)
                check_refused(self, BadGoal, {"number": 0}, function, journey, good, (None,), *rest)
            for function in (ever_paper, kept_paper):
                check_refused(self, BadText, {"number": 0}, function, journey, good, (), (None,))
            for paper in (None, ("ever", ()), ("kept", ()), ("never", ())):
                check_refused(self, TooGreat, {"most": 3000}, check_ever, journey, good, (), (), paper)
                check_refused(self, TooGreat, {"most": 3000}, check_kept, journey, good, (), (), paper)
            check_refused(self, TooGreat, {"most": 3000}, passing, journey, good)
            check_refused(self, TooGreat, {"most": 3000}, holders, journey, ())
            check_refused(self, TooGreat, {"most": 3000}, vetoers, journey, (), ())
            check_refused(self, BadLot, {"number": (0, 0)}, vetoers, journey, (), (7,))
            self.assertEqual(overrulers(journey)[:0], ())


if __name__ == "__main__":
    unittest.main()

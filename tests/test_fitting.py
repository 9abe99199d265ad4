"""floorpowers/fitting.py: rows that fit, counted and numbered, what minutes tell of places, two minutes, papers."""

import unittest

from floorpowers.entries import all_cuts
from floorpowers.errors import BadHouse, BadMinutes, BadName, BadNumber, BadPaper, BadStand, TooGreat
from floorpowers.fitting import (both_fit, check_fit, entry_acts, first_fit, fit_at, fit_paper, fits_counted,
                                 may_notes, parting_fit, says_no_more, stands_at, sure_notes)
from floorpowers.webs import web_of
from helpers import check_refused, strange_values
from minutes_models import (ONE_ACT, WORDS, all_pins, cuts_of, does_note, does_tell, drawn_minutes, good_pairs, leads,
                            pair_graph, things_of, told_by)
from sittings import (BEYOND_EDGE, EDGE_HOUSE, FORTY_PINS, FULL, GREAT, HALF, ON_EDGE, ON_PAIRS, PAIRS_HOUSE, SMALL,
                      acts, after, all_rows, book, drawn_row, first_stand, graph)
from test_webs import odd_stand, starts

PASS = ("pass",)
GAP = ("gap", 0, None)
ENDLESS = ("no limit", "no limit, lay and take")
ROWS = {"one member": 5, "no limit": 5, "two members": 4, "each can bring it up": 5, "no limit, lay and take": 5}


def drawn_cases(every=2):
    """Small houses, stands and minutes, drawn and told by rows."""
    told = []
    for name in ROWS:
        house = SMALL[name]
        for number, stand in enumerate((starts(house) + [odd_stand(house)])[::2]):
            for state in range(6):
                told.append((name, stand, drawn_minutes(house, state % 5, 5000 * state + 7 * number + 3)))
            row = drawn_row(house, stand, 31 * number + 1, 9)
            told += [(name, stand, told_by(house, stand, row, each)) for each in (1, 2, 4)]
            told.append((name, stand, told_by(house, stand, row[:5], 3)[:-1]))
    return told[every % 3::every]


def fitting_rows(name, stand, minutes, most):
    """All rows of at most so many acts that fit, least first."""
    told = all_rows(graph(SMALL[name], stand), stand, most)
    fit = [row for row, way in told if cuts_of(minutes, way, row)]
    return sorted(fit, key=lambda row: (len(row), row))


class RowsTest(unittest.TestCase):

    def test_all_rows(self):
        none = some = 0
        for name, stand, minutes in drawn_cases():
            house, most = SMALL[name], ROWS[name]
            told = fitting_rows(name, stand, minutes, most)
            first = first_fit(house, stand, minutes)
            if told:
                self.assertEqual(first, told[0])
            else:
                self.assertTrue(first is None or len(first) > most)
            does_any = (stand, (0, 0)) in good_pairs(house, stand, minutes)
            self.assertIs(first is not None, does_any)
            for many in range(most + 1):
                rows = [row for row in told if len(row) == many]
                self.assertEqual(fits_counted(house, stand, minutes, many), len(rows))
                for number, row in list(enumerate(rows))[:3] + list(enumerate(rows))[-2:]:
                    self.assertEqual(fit_at(house, stand, minutes, many, number), row)
                for number in strange_values() + [-1, len(rows), "0"]:
                    check_refused(self, BadNumber, {"value": number}, fit_at, house, stand, minutes, many, number)
            none += not does_any
            some += len(told) > 2
        self.assertTrue(none > 10 and some > 30)

    def test_longer_ones(self):
        found = 0
        for name, stand, minutes in drawn_cases(3):
            house = SMALL[name]
            first = first_fit(house, stand, minutes)
            if first is not None:
                way = (stand,)
                for act in first:
                    way += (after(house, way[-1], act),)
                self.assertTrue(cuts_of(minutes, way, first))
                self.assertTrue(all(fits_counted(house, stand, minutes, less) == 0 for less in range(len(first))))
                self.assertEqual(fit_at(house, stand, minutes, len(first), 0), first)
                found += len(first) > 5
        self.assertGreater(found, 3)

    def test_told_out(self):
        house = ((2, 1, 1), 1, FULL, (1, 2, 0), 2)
        begin = first_stand(house)
        minutes = (GAP, ("kind", "amend"), ("gap", 2, 5), ("voted", (0,), ()), ("note", "top", "put"))
        put, amend = ("move", ("put", (0,))), ("move", ("amend", 0))
        self.assertEqual(first_fit(house, begin, minutes), (put, amend, PASS, PASS, PASS, ("vote", (0,))))
        self.assertEqual([fits_counted(house, begin, minutes, many) for many in (5, 6, 7, 8, 30)], [0, 4, 8, 12, 0])
        self.assertEqual(fit_at(house, begin, minutes, 6, 3), (put, amend, PASS, PASS, PASS, ("vote", (0, 2))))
        self.assertEqual(first_fit(house, begin, ()), ())
        self.assertEqual([fits_counted(house, begin, (), many) for many in (0, 1)], [1, 0])
        self.assertIs(first_fit(house, begin, (("note", "over", True),)), None)
        self.assertEqual(first_fit(house, begin, (GAP, ("note", "over", True))), (PASS,) * 3)
        over = ("over", (0,))
        self.assertEqual(first_fit(house, over, (("note", "text", (0,)), GAP)), ())
        self.assertIs(first_fit(house, over, (("gap", 1, None),)), None)


class PlacesTest(unittest.TestCase):

    def test_by_pairs_forwards_and_backwards(self):
        found = set()
        for name, stand, minutes in drawn_cases():
            house = SMALL[name]
            web = web_of(house, stand)
            good = good_pairs(house, stand, minutes)
            for place in range(len(minutes) + 1):
                told = tuple(here for here in web if (here, (place, 0)) in good)
                self.assertEqual(stands_at(house, stand, minutes, place), told)
                sure = []
                for word in WORDS:
                    so = [[does_note(here, word, thing) for here in told] for thing in things_of(word, house)]
                    may = tuple(thing for thing, each in zip(things_of(word, house), so) if any(each))
                    self.assertEqual(may_notes(house, stand, minutes, place, word), may)
                    sure += [("note", word, thing) for thing, each in zip(things_of(word, house), so)
                             if told and all(each)]
                self.assertEqual(sure_notes(house, stand, minutes, place), tuple(sure))
                found.add((len(told) > 1, len(sure) > 1))
                if place < len(minutes) and minutes[place][0] in ONE_ACT:
                    acts_told = {act for here in told for act in acts(house, here) if does_tell(minutes[place], act)
                                 and (after(house, here, act), (place + 1, 0)) in good}
                    self.assertEqual(entry_acts(house, stand, minutes, place), tuple(sorted(acts_told)))
                    found.add(len(acts_told))
                else:
                    check_refused(self, BadNumber, {"value": place}, entry_acts, house, stand, minutes, place)
        self.assertTrue({(False, False), (True, True), (True, False), (False, True), 0, 1, 2} <= found)

    def test_all_kinds_of_things(self):
        house = ((2, 1, 1), 1, FULL, (1, 2, 0), 2)
        begin = first_stand(house)
        self.assertEqual(may_notes(house, begin, (GAP,), 1, "top"),
                         (None, "put", "amend", "lay", "close", "end"))
        both = ((2, 1, 1), 1, book(take=(7, HALF), put=(1, HALF), end=(8, HALF), lay=(2, HALF)), (1, 2, 0), None)
        laid = ("floor", (), (0,), (), False, 0, 0, None)
        self.assertEqual(may_notes(both, laid, (GAP,), 1, "top"), (None, "put", "lay", "take", "end"))
        self.assertEqual(may_notes(house, begin, (GAP,), 1, "over"), (False, True))
        self.assertEqual(may_notes(house, begin, (GAP,), 1, "table"), (None, (0,)))
        self.assertEqual(may_notes(house, begin, (GAP,), 1, "turn"), (0, 1, 2))
        self.assertEqual(may_notes(house, begin, (GAP,), 1, "text"), ((), (0,)))
        self.assertEqual(sure_notes(house, begin, (GAP,), 1), ())
        # The first pin of a gap without a bound, that may be empty, is also that at which it goes on.
        self.assertEqual(stands_at(house, begin, (GAP,), 0), web_of(house, begin))
        self.assertEqual(sure_notes(house, begin, (GAP,), 0), ())
        self.assertEqual(sure_notes(house, begin, (("gap", 1, None),), 0),
                         (("note", "text", ()), ("note", "table", None), ("note", "top", None), ("note", "turn", 0),
                          ("note", "over", False)))
        over = (GAP, ("note", "over", True), ("note", "text", (0,)))
        self.assertEqual(sure_notes(house, begin, over, 2), (("note", "text", (0,)), ("note", "over", True)))
        self.assertEqual(may_notes(house, begin, over, 2, "table"), ())
        self.assertEqual(stands_at(house, begin, over, 1), (("over", (0,)),))
        never = over + (("act", PASS),)
        self.assertEqual(stands_at(house, begin, never, 0), ())
        self.assertEqual(sure_notes(house, begin, never, 0), ())
        self.assertEqual(entry_acts(house, begin, never, 3), ())
        self.assertEqual(entry_acts(house, begin, (("kind", "put"), GAP), 0), (("move", ("put", (0,))),))

    def test_refusals(self):
        house = SMALL["two members"]
        begin = first_stand(house)
        minutes = (GAP, ("act", PASS), ("note", "over", True))
        for place in strange_values() + [-1, 4, "0", (0,)]:
            for function, rest in ((stands_at, ()), (may_notes, (None,)), (sure_notes, ())):
                check_refused(self, BadNumber, {"value": place}, function, house, begin, minutes, place, *rest)
        for place in strange_values() + [-1, 0, 2, 3, 4, "1"]:
            check_refused(self, BadNumber, {"value": place}, entry_acts, house, begin, minutes, place)
        for word in strange_values() + ["texts", "pile", "left", "Text", "passes", ("text",)]:
            check_refused(self, BadName, {"name": word}, may_notes, house, begin, minutes, 1, word)


class TwoMinutesTest(unittest.TestCase):

    def test_all_rows(self):
        found = set()
        for name in ROWS:
            house, most = SMALL[name], ROWS[name] - 1
            for stand in starts(house)[:2] + starts(house)[-3:-1]:
                told = all_rows(graph(house, stand), stand, most)
                told.sort(key=lambda pair: (len(pair[0]), pair[0]))
                for state in range(12):
                    minutes = drawn_minutes(house, state % 4, 900 * state + 1)
                    other = drawn_minutes(house, (state + 1) % 3, 700 * state + 2)
                    if state % 3 == 0:
                        other = minutes[:1] + (("gap", 0, 2),) + minutes[1:]
                    fits = [(row, bool(cuts_of(minutes, way, row)), bool(cuts_of(other, way, row)))
                            for row, way in told]
                    parting = parting_fit(house, stand, minutes, other)
                    self.check_first(parting, [row for row, one, two in fits if one != two], most)
                    both = both_fit(house, stand, minutes, other)
                    self.check_first(both, [row for row, one, two in fits if one and two], most)
                    no_more = says_no_more(house, stand, minutes, other)
                    if any(one and not two for _, one, two in fits):
                        self.assertFalse(no_more)
                    if parting is None:
                        self.assertTrue(no_more and says_no_more(house, stand, other, minutes))
                    else:
                        self.assertFalse(no_more and says_no_more(house, stand, other, minutes))
                    found.add((parting is None, both is None, no_more))
        self.assertTrue(len(found) > 4)

    def check_first(self, told, rows, most):
        if rows:
            self.assertEqual(told, rows[0])
        else:
            self.assertTrue(told is None or len(told) > most)

    def test_no_more_by_rows(self):
        for name, stand, minutes in drawn_cases(3):
            house = SMALL[name]
            for other in (minutes + (GAP,), minutes[:1] + (GAP,) + minutes[1:], (GAP,)):
                self.assertTrue(says_no_more(house, stand, minutes, other))
                self.assertEqual(both_fit(house, stand, minutes, other), first_fit(house, stand, minutes))

    def test_sure_notes_put_in_change_nothing(self):
        for name, stand, minutes in drawn_cases(5):
            house = SMALL[name]
            for place in range(len(minutes) + 1):
                for note in sure_notes(house, stand, minutes, place)[:2]:
                    more = minutes[:place] + (note,) + minutes[place:]
                    self.assertIs(parting_fit(house, stand, minutes, more), None)
                if minutes and place < len(minutes):
                    for thing in things_of("turn", house):
                        if thing not in may_notes(house, stand, minutes, place, "turn"):
                            more = minutes[:place] + (("note", "turn", thing),) + minutes[place:]
                            self.assertIs(first_fit(house, stand, more), None)

    def test_told_out(self):
        house = SMALL["two members"]
        begin = first_stand(house)
        few, more = (("gap", 0, 2),), (("gap", 1, 3),)
        self.assertFalse(says_no_more(house, begin, few, more))
        self.assertEqual(parting_fit(house, begin, few, more), ())
        self.assertEqual(both_fit(house, begin, few, more), (("move", ("end",)),))
        self.assertTrue(says_no_more(house, begin, (("gap", 1, 2),), more))
        self.assertEqual(len(parting_fit(house, begin, (("gap", 1, 2),), more)), 3)
        self.assertIs(both_fit(house, begin, (), more), None)
        self.assertTrue(says_no_more(house, begin, (("note", "over", True),), ()))


class PapersTest(unittest.TestCase):

    def check_paper(self, case, paper, does_hold):
        if does_hold:
            self.assertEqual(check_fit(*case, paper), paper[0])
        else:
            check_refused(self, BadPaper, {"word": paper[0]}, check_fit, *case, paper)

    def is_none_paper(self, house, stand, minutes, told):
        """Whether tuples of stands are a "none" paper, by the words."""
        pins = all_pins(minutes)
        if not minutes or stand not in told[0]:
            return False
        lots = dict(zip(pins, told))
        return all(other != pins[-1] and behind in lots[other] for pin, here_all in lots.items() for here in here_all
                   for _, behind, other in leads(house, minutes, here, pin))

    def test_told_ones(self):
        words = {}
        for name, stand, minutes in drawn_cases():
            case = (SMALL[name], stand, minutes)
            paper = fit_paper(*case)
            self.assertEqual(paper[0], "none" if first_fit(*case) is None else "fits")
            self.check_paper(case, paper, True)
            words[paper[0]] = words.get(paper[0], 0) + 1
            if paper[0] == "fits" and len(paper[1]) < 12:
                self.assertIn(paper[2], all_cuts(*case, paper[1]))
        self.assertTrue(words["fits"] > 20 and words["none"] > 20)

    def test_rows_and_cuts_with_one_thing_otherwise(self):
        for name, stand, minutes in drawn_cases(3):
            case = (SMALL[name], stand, minutes)
            paper = fit_paper(*case)
            if paper[0] == "fits" and len(paper[1]) < 12:
                row, cuts = paper[1:]
                right = all_cuts(*case, row)
                for at in range(len(cuts)):
                    for other in (cuts[at] - 1, cuts[at] + 1, len(row), 0):
                        told = cuts[:at] + (other,) + cuts[at + 1:]
                        self.check_paper(case, ("fits", row, told), told in right)
                for value in strange_values():
                    self.check_paper(case, ("fits", row, cuts[:-1] + (value,)), False)
                    self.check_paper(case, ("fits", row + (value,), cuts), False)
                self.check_paper(case, ("fits", row, cuts + cuts[-1:]), False)
                self.check_paper(case, ("fits", row, cuts[:-1]), False)
                self.check_paper(case, ("fits", row + (("vote", ()),) * 2, cuts), False)
                self.check_paper(case, ("fits", (), ()), False)

    def test_stands_with_one_thing_otherwise(self):
        held = set()
        for name, stand, minutes in drawn_cases(3):
            case = (SMALL[name], stand, minutes)
            paper = fit_paper(*case)
            if paper[0] == "none" and sum(map(len, paper[1])) < 60:
                told = paper[1]
                for at, stands in enumerate(told):
                    for number in range(len(stands)):
                        less = told[:at] + (stands[:number] + stands[number + 1:],) + told[at + 1:]
                        does_hold = self.is_none_paper(*case, less)
                        self.check_paper(case, ("none", less), does_hold)
                        held.add(does_hold)
                    for here in web_of(*case[:2])[:6] + (odd_stand(case[0]), ("over", (0,))):
                        if here not in stands:
                            more = told[:at] + (stands + (here,),) + told[at + 1:]
                            does_hold = self.is_none_paper(*case, more)
                            self.check_paper(case, ("none", more), does_hold)
                            held.add(does_hold)
                    twice = told[:at] + (stands + stands[:1],) + told[at + 1:]
                    if stands:
                        check_refused(self, BadPaper, {"word": "form"}, check_fit, *case, ("none", twice))
                self.check_paper(case, ("none", tuple(stands[::-1] for stands in told)), True)
        self.assertEqual(held, {True, False})

    def test_forms(self):
        house = SMALL["two members"]
        begin = first_stand(house)
        case = (house, begin, (("gap", 0, 1), ("note", "over", True)))
        wrong = strange_values() + [(), ("fits",), ("fits", ()), ("fits", (), (), ()), ["fits", (), ()], ("none",),
                                    ("none", (), ()), ("Fits", (), ()), ("Fit", (), ()), ((), "none")]
        wrong += [("fits", value, ()) for value in strange_values()] + [("fits", (), v) for v in strange_values()]
        wrong += [(value, (), ()) for value in strange_values()] + [(v, ((), (), ())) for v in strange_values()]
        wrong += [("none", value) for value in strange_values()]
        wrong += [("none", ((), value, ())) for value in strange_values()]
        wrong += [("none", ((value,), (), ())) for value in strange_values() + [("over",), ("over", (5,)), begin[:7]]]
        wrong += [("none", ((begin,), ())), ("none", ((begin,), (), (), ())), ("none", ((begin, begin), (), ())),
                  ("none", ()), ("none", [(), (), ()])]
        for paper in wrong:
            check_refused(self, BadPaper, {"word": "form"}, check_fit, *case, paper)
        for paper in (("none", ((), (), ())), ("none", ((begin,), (), ())), ("fits", (), ()), ("fits", (), (0, 0, 0))):
            check_refused(self, BadPaper, {"word": paper[0]}, check_fit, *case, paper)
        check_refused(self, BadPaper, {"word": "none"}, check_fit, house, begin, (), ("none", ()))
        check_refused(self, BadPaper, {"word": "form"}, check_fit, house, begin, (), ("none", ((begin,),)))
        self.assertEqual(check_fit(house, begin, (), ("fits", (), (0,))), "fits")
        check_refused(self, BadPaper, {"word": "fits"}, check_fit, house, begin, (GAP,),
                      ("fits", (("vote", ()),), (0, 1)))
        check_refused(self, BadPaper, {"word": "fits"}, check_fit, house, begin, (), ("fits", (PASS,), (0,)))


class RefusalsTest(unittest.TestCase):

    def calls(self):
        """Each function with what stands behind minutes, wrong where it comes behind TooGreat."""
        one = [(first_fit, ()), (fits_counted, (None,)), (fit_at, (None, None)), (stands_at, (None,)),
               (entry_acts, (None,)), (may_notes, (None, None)), (sure_notes, (None,)), (fit_paper, ()),
               (check_fit, (None,))]
        return one + [(function, ((),)) for function in (says_no_more, parting_fit, both_fit)]

    def test_in_turn(self):
        great = first_stand(GREAT)
        two = (says_no_more, parting_fit, both_fit)
        for function, rest in self.calls():
            check_refused(self, TooGreat, {"most": 3000}, function, GREAT, great, (), *rest)
            check_refused(self, TooGreat, {"most": 3000}, function, EDGE_HOUSE, BEYOND_EDGE, (), *rest)
            check_refused(self, BadHouse, {"place": None}, function, None, None, None, *rest)
            check_refused(self, BadStand, {"place": None}, function, GREAT, None, None, *rest)
            check_refused(self, BadMinutes, {"place": None}, function, GREAT, great, None, *rest)
            check_refused(self, BadMinutes, {"place": 1}, function, GREAT, great, (GAP, None), *rest)
        for function in two:
            for value in strange_values():
                check_refused(self, BadMinutes, {"place": None}, function, GREAT, great, (), value)
            check_refused(self, BadMinutes, {"place": 0}, function, GREAT, great, (), (GAP[:2],))

    def test_twenty_thousand_pairs(self):
        # 3,000 stands: with six pins there are 18,000 pairs, with seven 21,000.
        six = (("gap", 0, 4),)
        seven = (("gap", 0, 5),)
        for function, rest in self.calls():
            check_refused(self, TooGreat, {"most": 20000}, function, EDGE_HOUSE, ON_EDGE, seven, *rest)
        self.assertEqual(first_fit(EDGE_HOUSE, ON_EDGE, six), ())
        self.assertEqual(fits_counted(EDGE_HOUSE, ON_EDGE, six, 0), 1)
        self.assertEqual(len(stands_at(EDGE_HOUSE, ON_EDGE, (GAP,) * 5, 5)), 3000)
        for function in (says_no_more, parting_fit, both_fit):
            check_refused(self, TooGreat, {"most": 20000}, function, EDGE_HOUSE, ON_EDGE, (), seven)
            function(EDGE_HOUSE, ON_EDGE, six, ())
        self.assertEqual((len(web_of(PAIRS_HOUSE, ON_PAIRS)), len(all_pins(FORTY_PINS))), (500, 40))
        more = FORTY_PINS[:3] + (("gap", 0, 9),)
        for function, rest in self.calls():
            check_refused(self, TooGreat, {"most": 20000}, function, PAIRS_HOUSE, ON_PAIRS, more, *rest)
        for function in (first_fit, fit_paper):
            function(PAIRS_HOUSE, ON_PAIRS, FORTY_PINS)
        for function in (says_no_more, parting_fit, both_fit):
            function(PAIRS_HOUSE, ON_PAIRS, FORTY_PINS, ())
            function(PAIRS_HOUSE, ON_PAIRS, (), FORTY_PINS)
            check_refused(self, TooGreat, {"most": 20000}, function, PAIRS_HOUSE, ON_PAIRS, (), more)
        for many in strange_values() + [-1, 31, "0"]:
            check_refused(self, BadNumber, {"value": many}, fits_counted, EDGE_HOUSE, ON_EDGE, six, many)
            check_refused(self, BadNumber, {"value": many}, fit_at, EDGE_HOUSE, ON_EDGE, six, many, None)


# Behind each act the pins tell of the last ones which of them were as told: so many lots come with one stand.
WIDE_HOUSE = ((1,), 1, book(put=(1, HALF), amend=(2, HALF), end=(4, HALF)), (0,), None)
WIDE = (GAP, ("one", (("move", ("put", (0,))), ("vote", (0,)))), ("gap", 9, 9), ("gap", 0, 9))


class ManyLotsTest(unittest.TestCase):

    def numbers_by_acts(self, house, stand, minutes, most):
        """How many unlike pairs of a stand and the lot of all pins come by rows of at most 0, 1, 2 .. acts."""
        first = (stand, frozenset(pin for here, pin in self.settled(house, minutes, {(stand, (0, 0))})))
        level, found, numbers = {first}, {first}, [1]
        while numbers[-1] <= most:
            level = {each for state in level for each in self.behind(house, minutes, state)} - found
            found |= level
            numbers.append(len(found))
        return numbers

    def settled(self, house, minutes, pairs):
        found, left = set(), list(pairs)
        while left:
            pair = left.pop()
            if pair not in found:
                found.add(pair)
                left += [(here, pin) for act, here, pin in leads(house, minutes, *pair) if act is None]
        return found

    def behind(self, house, minutes, state):
        stand, pins = state
        steps = {pin: leads(house, minutes, stand, pin) for pin in pins}
        for act in acts(house, stand):
            there = after(house, stand, act)
            told = {(there, other) for pin in pins for done, _, other in steps[pin] if done == act}
            if told:
                yield (there, frozenset(pin for _, pin in self.settled(house, minutes, told)))

    def test_how_many(self):
        begin = first_stand(WIDE_HOUSE)
        numbers = self.numbers_by_acts(WIDE_HOUSE, begin, WIDE, 20000)
        many = len(numbers) - 1
        self.assertTrue(10 < many < 30 and numbers[-2] <= 20000 < numbers[-1])
        self.assertGreater(fits_counted(WIDE_HOUSE, begin, WIDE, many - 1), 0)
        self.assertEqual(len(fit_at(WIDE_HOUSE, begin, WIDE, many - 1, 0)), many - 1)
        for more in (many, many + 1, 30):
            check_refused(self, TooGreat, {"most": 20000}, fits_counted, WIDE_HOUSE, begin, WIDE, more)
            check_refused(self, TooGreat, {"most": 20000}, fit_at, WIDE_HOUSE, begin, WIDE, more, None)
        check_refused(self, BadNumber, {"value": 31}, fit_at, WIDE_HOUSE, begin, WIDE, 31, None)
        for function in (says_no_more, parting_fit, both_fit):
            check_refused(self, TooGreat, {"most": 20000}, function, WIDE_HOUSE, begin, WIDE, ())
            check_refused(self, TooGreat, {"most": 20000}, function, WIDE_HOUSE, begin, (), WIDE)
        self.assertEqual(len(first_fit(WIDE_HOUSE, begin, WIDE)), 10)

    def test_lots_without_a_pin_are_not_counted(self):
        house = ((1, 1), 2, book(put=(1, HALF), amend=(2, HALF), end=(4, HALF)), (1, 0), None)
        begin = first_stand(house)
        minutes = (("gap", 0, 9), ("voted", (0,), ()), ("gap", 0, 9), ("gap", 0, 9))
        # There are 19,579 pairs with a pin, and each of 620 stands comes without one, too.
        self.assertEqual(len(web_of(house, begin)), 620)
        self.assertEqual(fits_counted(house, begin, minutes, 30), 0)
        self.assertGreater(fits_counted(house, begin, minutes, 28), 0)
        self.assertFalse(says_no_more(house, begin, minutes, ()))
        self.assertFalse(says_no_more(house, begin, (), minutes))
        for function in (says_no_more, parting_fit, both_fit):
            check_refused(self, TooGreat, {"most": 20000}, function, house, begin, minutes, (GAP,))
            check_refused(self, TooGreat, {"most": 20000}, function, house, begin, (GAP,), minutes)
        self.assertEqual(len(fit_paper(WIDE_HOUSE, begin, WIDE)), 3)


if __name__ == "__main__":
    unittest.main()

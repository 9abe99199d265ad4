"""floorpowers/entries.py: entries of each sort, notes, rows that fit, cuts and pins."""

import unittest

from floorpowers.entries import all_cuts, does_fit, is_entry, is_noted, need_minutes, pins_of
from floorpowers.errors import BadHouse, BadMinutes, BadRow, BadStand, TooGreat
from helpers import OtherInt, OtherStr, OtherTuple, check_refused, strange_values
from minutes_models import (WORDS, all_pins, cuts_of, does_note, drawn_minutes, pins_by, things_of, told_by)
from sittings import (FULL, GREAT, HALF, KINDS, SMALL, acts, after, all_acts, all_rows, book, drawn_row, first_stand,
                      graph, lots)
from test_webs import odd_stand, starts

HOUSE = ((2, 1, 1), 2, book(put=(1, HALF), amend=(3, HALF), end=(5, HALF)), (1, 2, 0), 3)
BEGIN = first_stand(HOUSE)
PASS = ("pass",)


class EntriesTest(unittest.TestCase):

    def check_entry(self, house, value, is_one):
        self.assertIs(is_entry(house, value), is_one, value)
        if is_one:
            self.assertEqual(need_minutes(house, (value,)), (value,))
        else:
            check_refused(self, BadMinutes, {"place": 0}, need_minutes, house, (value,))
            check_refused(self, BadMinutes, {"place": 1}, need_minutes, house, (("gap", 0, None), value, None))

    def test_right_ones(self):
        for house in list(SMALL.values()) + [HOUSE, GREAT]:
            acts_told = all_acts(house)
            for act in acts_told:
                self.check_entry(house, ("act", act), True)
                self.check_entry(house, ("one", (act,)), True)
            for many in range(1, 9):
                self.check_entry(house, ("one", tuple(acts_told[:many])), True)
                self.check_entry(house, ("one", tuple(acts_told[-many:])), True)
            for kind in KINDS:
                self.check_entry(house, ("kind", kind), kind in [rule[0] for rule in house[2]])
            for yes in lots(len(house[0])):
                for no in lots(len(house[0])):
                    self.check_entry(house, ("voted", yes, no), not set(yes) & set(no))
            for word in WORDS:
                for thing in things_of(word, house):
                    self.check_entry(house, ("note", word, thing), True)
            for least in range(-1, 11):
                self.check_entry(house, ("gap", least, None), 0 <= least <= 9)
                for most in range(-1, 11):
                    self.check_entry(house, ("gap", least, most), 0 <= least <= most <= 9)

    def test_one_thing_otherwise(self):
        put, vote = ("move", ("put", (0,))), ("vote", (0, 1))
        strange = strange_values()
        wrong = strange + [(), ("act",), ("act", PASS, PASS), ["act", PASS], ("Act", PASS), (PASS, "act"), ("pass",),
                           ("gap", 1), ("gap", 1, 2, 3), ("note", "text"), ("note", "text", (), ()), ("voted", ()),
                           ("voted", (), (), ()), ("kind",), ("one",), ("move", ("put", (0,))), ("kind", "put", "put")]
        wrong += [(value, PASS) for value in strange] + [("act", value) for value in strange]
        wrong += [("act", each) for each in ((), ("pass", 0), ("move", ("put", ())), ("move", ("lay",)), ("vote", (3,)),
                                             ("vote", (1, 0)), ("move", ("amend", 2)), ("move", ("amend", True)))]
        wrong += [("one", value) for value in strange + [(), [PASS], (PASS, PASS), (PASS, put), (put, None),
                                                         tuple(all_acts(HOUSE)[:9]), PASS, (vote, PASS)]]
        wrong += [("one", (put, value)) for value in strange] + [("one", (value,)) for value in strange]
        wrong += [("kind", value) for value in strange + ["lay", "take", "close", "pass", "Put", "", ("put",)]]
        wrong += [("voted", value, ()) for value in strange + [(3,), (1, 0), (True,), [0], ((0,),)]]
        wrong += [("voted", (), value) for value in strange + [(3,), (1, 0), (False,), [0], ((0,),)]]
        wrong += [("voted", (0,), (0,)), ("voted", (0, 2), (1, 2))]
        wrong += [("gap", value, None) for value in strange + ["0", (0,)]]
        wrong += [("gap", 1, value) for value in strange[1:] + ["2", (2,), 0]]
        wrong += [("note", value, ()) for value in strange + ["texts", "pile", "passes", "left", "closed", "Text"]]
        wrong += [("note", "text", value) for value in strange + [(2,), (1, 0), (False,), 0]]
        wrong += [("note", "table", value) for value in strange[1:] + [(2,), (1, 0), (True,), 0]]
        wrong += [("note", "top", value) for value in strange[1:] + ["lay", "take", "close", "Put", ("put",), ()]]
        wrong += [("note", "turn", value) for value in strange + [3, -1, (0,), "0"]]
        wrong += [("note", "over", value) for value in strange[3:] + [None, 0, 1, "True", ()]]
        for value in wrong:
            self.check_entry(HOUSE, value, False)

    def test_other_kinds_of_the_same_values(self):
        self.check_entry(HOUSE, OtherTuple((OtherStr("gap"), OtherInt(1), OtherInt(2))), True)
        self.check_entry(HOUSE, (OtherStr("note"), OtherStr("top"), OtherStr("put")), True)

    def test_how_many(self):
        gap = ("gap", 0, None)
        self.assertEqual(need_minutes(HOUSE, ()), ())
        self.assertEqual(need_minutes(HOUSE, (gap,) * 12), (gap,) * 12)
        check_refused(self, BadMinutes, {"place": None}, need_minutes, HOUSE, (gap,) * 13)
        check_refused(self, BadMinutes, {"place": None}, need_minutes, HOUSE, (None,) * 13)
        check_refused(self, BadMinutes, {"place": 11}, need_minutes, HOUSE, (gap,) * 11 + (None,))
        for value in strange_values() + [[], [gap], 0, "gap"]:
            check_refused(self, BadMinutes, {"place": None}, need_minutes, HOUSE, value)
            check_refused(self, BadMinutes, {"place": None}, does_fit, HOUSE, BEGIN, value, None)
        for function in (need_minutes, is_entry):
            check_refused(self, BadHouse, {"place": None}, function, None, None)


class NotesTest(unittest.TestCase):

    def test_at_all_stands(self):
        for house in list(SMALL.values())[:6] + [HOUSE]:
            stands = sorted(graph(house, first_stand(house)), key=repr)
            for stand in stands[::max(1, len(stands) // 40)] + [odd_stand(house), ("over", ()), ("over", (0,))]:
                for word in WORDS:
                    for thing in things_of(word, house):
                        self.assertIs(is_noted(house, stand, ("note", word, thing)), does_note(stand, word, thing))

    def test_told_out(self):
        for word, thing, is_so in (("text", (0,), True), ("over", True, True), ("over", False, False),
                                   ("table", None, False), ("top", None, False), ("turn", 0, False)):
            self.assertIs(is_noted(HOUSE, ("over", (0,)), ("note", word, thing)), is_so)
        self.assertTrue(is_noted(HOUSE, BEGIN, ("note", "top", None)))
        self.assertTrue(is_noted(HOUSE, BEGIN, ("note", "table", None)))
        self.assertFalse(is_noted(HOUSE, BEGIN, ("note", "table", ())))
        pile = BEGIN[:3] + ((("put", (0,)), ("amend", 1)),) + BEGIN[4:]
        self.assertTrue(is_noted(HOUSE, pile, ("note", "top", "amend")))
        self.assertFalse(is_noted(HOUSE, pile, ("note", "top", "put")))

    def test_what_are_none(self):
        wrong = strange_values() + [(), ("gap", 0, None), ("act", PASS), ("kind", "put"), ("voted", (), ()),
                                    ("note", "text", (2,)), ("note", "over", 1), ["note", "over", True], ("note",)]
        for value in wrong:
            check_refused(self, BadMinutes, {"place": None}, is_noted, HOUSE, BEGIN, value)
        check_refused(self, BadStand, {"place": None}, is_noted, HOUSE, None, None)


class FitsTest(unittest.TestCase):

    def check_row(self, house, minutes, way, row):
        told = cuts_of(minutes, way, row)
        self.assertIs(does_fit(house, way[0], minutes, row), len(told) > 0)
        if len(told) > 400:
            check_refused(self, TooGreat, {"most": 400}, all_cuts, house, way[0], minutes, row)
        else:
            self.assertEqual(all_cuts(house, way[0], minutes, row), tuple(told))
        pins = pins_of(house, way[0], minutes, row)
        self.assertEqual(pins, pins_by(house, minutes, way, row))
        self.assertEqual((len(minutes), 0) in pins, len(told) > 0)
        self.assertTrue(set(pins) <= set(all_pins(minutes)))
        return len(told)

    def test_all_short_rows(self):
        fit = many = 0
        for name, most in (("one member", 4), ("no limit", 5), ("two members", 3), ("each can bring it up", 4)):
            house = SMALL[name]
            for number, stand in enumerate(starts(house)[:5]):
                rows = all_rows(graph(house, stand), stand, most)
                rows = rows[::max(1, len(rows) // 40)]
                for state in range(8):
                    minutes = drawn_minutes(house, state % 5, 1000 * state + number)
                    for row, way in rows:
                        found = self.check_row(house, minutes, way, row)
                        fit += found > 0
                        many += found > 1
        self.assertTrue(fit > 300 and many > 40)

    def test_minutes_told_by_rows(self):
        fit = 0
        for house in list(SMALL.values()) + [HOUSE]:
            begin = first_stand(house)
            for state in range(6):
                row = drawn_row(house, begin, 77 * state + 5, 12)
                other = drawn_row(house, begin, 77 * state + 6, 12)
                for every in (1, 2, 3):
                    minutes = told_by(house, begin, row, every)
                    for each in (row, other, row[:-1]):
                        way = (begin,)
                        for act in each:
                            way += (after(house, way[-1], act),)
                        fit += self.check_row(house, minutes, way, each) > 0
        self.assertGreater(fit, 100)

    def test_told_out(self):
        row = (PASS, PASS, ("move", ("put", (0,))), PASS)
        self.assertEqual(all_cuts(HOUSE, BEGIN, (("gap", 0, None), ("act", PASS)), row), ((0, 3, 4),))
        self.assertEqual(all_cuts(HOUSE, BEGIN, (("gap", 0, None), ("gap", 3, 3)), row), ((0, 1, 4),))
        self.assertEqual(all_cuts(HOUSE, BEGIN, (), row), ())
        self.assertEqual(all_cuts(HOUSE, BEGIN, (), ()), ((0,),))
        self.assertTrue(does_fit(HOUSE, BEGIN, (), ()))
        self.assertFalse(does_fit(HOUSE, BEGIN, (), (PASS,)))
        self.assertEqual(pins_of(HOUSE, BEGIN, (), ()), ((0, 0),))
        self.assertEqual(pins_of(HOUSE, BEGIN, (), (PASS,)), ())
        gap = (("gap", 1, 2), ("note", "turn", 2), ("kind", "put"))
        self.assertEqual(pins_of(HOUSE, BEGIN, gap, ()), ((0, 0),))
        self.assertEqual(pins_of(HOUSE, BEGIN, gap, row[:1]), ((0, 1), (1, 0)))
        self.assertEqual(pins_of(HOUSE, BEGIN, gap, row[:2]), ((0, 2), (1, 0), (2, 0)))
        self.assertEqual(pins_of(HOUSE, BEGIN, gap, row[:3]), ((3, 0),))
        self.assertEqual(pins_of(HOUSE, BEGIN, gap, row), ())
        free = (("gap", 2, None),)
        self.assertEqual([pins_of(HOUSE, BEGIN, free, row[:many]) for many in range(4)],
                         [((0, 0),), ((0, 1),), ((0, 2), (1, 0)), ((0, 2), (1, 0))])

    def test_four_hundred_cuts(self):
        house = SMALL["no limit"]
        begin = first_stand(house)
        block = (("move", ("put", (0,))), PASS, ("vote", ()))
        gaps = (("gap", 0, None),) * 3
        row = block * 9
        self.assertEqual(len(all_cuts(house, begin, gaps, row[:26])), 27 * 28 // 2)
        check_refused(self, TooGreat, {"most": 400}, all_cuts, house, begin, gaps, row[:27])
        pairs = (("gap", 0, None), ("gap", 0, None))
        long_row = block * 133
        self.assertEqual(len(all_cuts(house, begin, pairs, long_row)), 400)
        check_refused(self, TooGreat, {"most": 400}, all_cuts, house, begin, pairs, long_row + block[:1])
        self.assertTrue(does_fit(house, begin, pairs, long_row + block[:1]))
        many = (("gap", 0, None),) * 12
        check_refused(self, TooGreat, {"most": 400}, all_cuts, house, begin, many, long_row)

    def test_rows_refused(self):
        for function in (does_fit, all_cuts, pins_of):
            for value in strange_values() + [[], 0]:
                check_refused(self, BadRow, {"place": None}, function, HOUSE, BEGIN, (), value)
            check_refused(self, BadRow, {"place": 1}, function, HOUSE, BEGIN, (), (PASS, ("vote", ())))
            check_refused(self, BadMinutes, {"place": 0}, function, HOUSE, BEGIN, (0,), None)
            check_refused(self, BadStand, {"place": None}, function, HOUSE, None, None, None)
            check_refused(self, BadHouse, {"place": None}, function, None, None, None, None)
            great = first_stand(GREAT)
            function(GREAT, great, (("gap", 0, None),), (PASS,))


if __name__ == "__main__":
    unittest.main()

"""floorpowers/sheets.py: what sheets tell, each verdict, and the first word that can't stand in a sheet."""

import unittest

from floorpowers.errors import (BadGoal, BadHouse, BadLot, BadMember, BadRow, BadText, BadWords, FloorError, TooGreat)
from floorpowers.sheets import judged, sheet_told
import forms
from helpers import are_plain, check_refused, strange_values
from models import all_goals, force_numbers
from sittings import FULL, GREAT, SMALL, after, all_acts, drawn, drawn_row, first_stand, graph, lots, may
from test_texts import model_act, model_house, model_short, model_stand, mutations, set_words

HOUSE = ((2, 1, 1), 1, FULL, (1, 2, 0), 2)
PASS = ("pass",)


def goal_words(goal):
    """The words of a goal."""
    return " or ".join(set_words(text) for text in goal) or "never"


def row_lines(name, row):
    """The lines of a row."""
    return ["row " + name] + [model_act(act) for act in row]


def sheet_of(house, text, member, things, verdicts):
    """The text of a sheet."""
    lines = [model_house(house), f"begin {set_words(text)} turn {member}"]
    for sort, name, thing in things:
        if sort == "row":
            lines += row_lines(name, thing)
        else:
            lines.append(f"{sort} {name} " + (set_words(thing) if sort == "lot" else goal_words(thing)))
    return "\n".join(lines + list(verdicts))


def way_of(house, stand, row):
    """The stands on the way of a row, as far as it is in order."""
    way = [stand]
    for act in row:
        if not may(house, way[-1], act):
            break
        way.append(after(house, way[-1], act))
    return way


class ToldTest(unittest.TestCase):

    def test_each_sort_of_line(self):
        things = [("row", "a", (PASS, PASS)), ("lot", "a", (0, 2)), ("goal", "a", ((0,),)), ("row", "zz", ()),
                  ("lot", "none", ()), ("goal", "never", ()), ("goal", "b", ((), (0,))),
                  ("row", "abcdefgh", (("move", ("put", (0,))), ("vote", ()), ("move", ("amend", 0))))]
        told = sheet_told(sheet_of(HOUSE, (0,), 2, things, ()))
        begin = ("floor", (0,), None, (), False, 2, 0, 2)
        self.assertEqual(told, (HOUSE, begin, (("a", (PASS, PASS)), ("abcdefgh", things[-1][2]), ("zz", ())),
                                (("a", (0, 2)), ("none", ())), (("a", ((0,),)), ("b", ((), (0,))), ("never", ()))))
        self.assertTrue(are_plain(told))
        self.assertEqual(judged(sheet_of(HOUSE, (0,), 2, things, ())), ())
        self.assertEqual(sheet_told(sheet_of(HOUSE, (), 0, [], ())), (HOUSE, first_stand(HOUSE), (), (), ()))

    def test_names_told_twice(self):
        things = [("lot", "x", (0,)), ("row", "x", (PASS,)), ("goal", "x", ((),)), ("lot", "x", (1,)), ("row", "x", ()),
                  ("goal", "x", ((0,),))]
        self.assertEqual(sheet_told(sheet_of(HOUSE, (), 0, things, ()))[2:],
                         ((("x", ()),), (("x", (1,)),), (("x", ((0,),)),)))

    def test_sixty_acts(self):
        whole = sheet_of(HOUSE, (), 0, [("row", "a", (PASS,) * 60)], ["ends a none", "short a 3"])
        self.assertEqual(len(sheet_told(whole)[2][0][1]), 60)
        self.assertEqual(judged(whole), (False, False))
        more = sheet_of(HOUSE, (), 0, [("row", "a", (PASS,) * 61)], ["ends a none"])
        line = more.split("\n").index("row a") + 61
        for function in (sheet_told, judged):
            check_refused(self, BadWords, {"line": line, "word": 0}, function, more)


class FormsTest(unittest.TestCase):

    def texts(self):
        house = SMALL["two members"]
        row = drawn_row(house, first_stand(house), 5, 7)
        things = [("row", "a", row), ("lot", "x", (0,)), ("goal", "y", ((), (0,))), ("row", "b", ()), ("goal", "z", ())]
        verdicts = ["ends a 0", "breaks a 3", "stands a 0 " + model_stand(first_stand(house)), "forces x y",
                    "bars x y", "comes y", "same a b", "short a 4"]
        return [sheet_of(house, (), 0, things, verdicts), sheet_of(house, (0,), 1, things[:3], ()),
                sheet_of(house, (), 1, (), verdicts[3:]), sheet_of(SMALL["put alone"], (0, 1), 0, (), ())]

    def test_words_otherwise(self):
        found = {}
        for number, text in enumerate(self.texts()):
            self.assertIs(forms.fault_of(forms.sheet, text), None)
            for wrong in mutations(text, number + 3, 150):
                fault = forms.fault_of(forms.sheet, wrong)
                told = self.answer(wrong)
                if fault is not None:
                    for function in (sheet_told, judged):
                        check_refused(self, BadWords, {"line": fault[0], "word": fault[1]}, function, wrong)
                found[fault is None, told is None] = found.get((fault is None, told is None), 0) + 1
        self.assertTrue(found[False, True] > 200 and found[True, False] > 9 and found[True, True] > 3, found)

    def answer(self, text):
        try:
            return judged(text)
        except FloorError:
            return None

    def test_lines_that_lack(self):
        whole = sheet_of(HOUSE, (), 0, (), ())
        lines = whole.split("\n")
        for many in range(1, len(lines)):
            check_refused(self, BadWords, {"line": many, "word": 0}, sheet_told, "\n".join(lines[:many]))
            check_refused(self, BadWords, {"line": many, "word": 0}, judged, "\n".join(lines[:many]))
        last = len(lines)
        for line, fault in (("row", (last, 1)), ("row Abc", (last, 1)), ("row abcdefghi", (last, 1)),
                            ("row a b", (last, 2)),
                            ("lot a1 0", (last, 1)), ("lot 1 0", (last, 1)), ("goal a_b 0", (last, 1)),
                            ("comes a-", (last, 1)), ("comes ", (last, 1)),
                            ("lot a", (last, 2)), ("goal a", (last, 2)), ("goal a never or 0", (last, 3)),
                            ("goal a 0 or", (last, 4)), ("goal a 0 or never", (last, 4)), ("ends a", (last, 2)),
                            ("comes", (last, 1)), ("comes a b", (last, 2)), ("stands a 0", (last, 3)), ("", (last, 0)),
                            ("pass", (last, 0)), ("comes a\nlot a 0", (last + 1, 0)), ("row a\nnone", (last + 1, 0)),
                            ("lot a none\npass", (last + 1, 0)), ("breaks a x", (last, 2)),
                            ("begin none turn 0", (last, 0))):
            check_refused(self, BadWords, {"line": fault[0], "word": fault[1]}, sheet_told, whole + "\n" + line)
        for value in strange_values():
            if not isinstance(value, str):
                check_refused(self, BadWords, {"line": None, "word": None}, sheet_told, value)
                check_refused(self, BadWords, {"line": None, "word": None}, judged, value)

    def test_which_error_is_due(self):
        whole = sheet_of(HOUSE, (), 0, (), ())
        told = [("row a\nmove put 7\npass", BadRow, {"place": 0}), ("row a\npass\nvote 4", BadRow, {"place": 1}),
                ("lot a 0 3", BadLot, {"number": 1}), ("goal a 0 or none", BadGoal, {"number": 1}),
                ("goal a 1", BadGoal, {"number": 0}), ("row a\nmove put none", BadRow, {"place": 0}),
                ("lot a 3\nlot a 0", BadLot, {"number": 0})]
        for function in (sheet_told, judged):
            for lines, kind, fields in told:
                check_refused(self, kind, fields, function, whole + "\n" + lines)
                for other, _, _ in told:
                    check_refused(self, kind, fields, function, whole + "\n" + lines + "\n" + other)
                    check_refused(self, BadText, {"number": 0}, function,
                                  whole.replace("begin none", "begin 1") + "\n" + lines)
                    check_refused(self, BadMember, {"value": 3}, function,
                                  whole.replace("turn 0", "turn 3") + "\n" + lines)
                    check_refused(self, BadHouse, {"place": "clauses"}, function,
                                  whole.replace("clauses 1", "clauses 0").replace("turn 0", "turn 3") + "\n" + lines)
                check_refused(self, BadWords, {"line": len((whole + lines).split("\n")) + 1, "word": 0}, function,
                              whole + "\n" + lines + "\nwhat")
            check_refused(self, BadText, {"number": 0}, function, whole.replace("none turn 0", "1 turn 3"))
            check_refused(self, BadMember, {"value": -1}, function, whole.replace("turn 0", "turn -1"))


class VerdictsTest(unittest.TestCase):

    def test_rows(self):
        found = {}
        for name, house in list(SMALL.items())[:8]:
            begin = first_stand(house)
            state = 11
            for number in range(12):
                row = drawn_row(house, begin, 13 * number, number)
                if number % 3 == 0:
                    at, state = drawn(state, len(row) + 1)
                    act, state = drawn(state, len(all_acts(house)))
                    row = row[:at] + (all_acts(house)[act],) + row[at:]
                other = row if number % 2 else drawn_row(house, begin, number, 4)
                things = [("row", "a", row), ("row", "b", other)]
                verdicts, told = self.row_verdicts(house, begin, row, other)
                answer = judged(sheet_of(house, (), 0, things, verdicts))
                self.assertEqual(answer, tuple(told))
                for line, is_so in zip(verdicts, told):
                    found[line.split(" ")[0], is_so] = True
        self.assertEqual(len(found), 10)

    def row_verdicts(self, house, begin, row, other):
        """Verdicts on two rows, and whether they are so, by the words."""
        way, far_way = way_of(house, begin, row), way_of(house, begin, other)
        is_whole, is_far_whole = len(way) == len(row) + 1, len(far_way) == len(other) + 1
        verdicts, told = [], []
        for text in lots(house[1]) + [(7,), (-1, 3)]:
            verdicts.append("ends a " + set_words(text))
            told.append(is_whole and way[-1] == ("over", text))
        for many in range(-1, len(row) + 2):
            verdicts.append(f"breaks a {many}")
            told.append(not is_whole and many == len(way) - 1)
            for stand in (way[-1], begin, ("over", ()), ("over", (9,)), way[min(max(many, 0), len(way) - 1)]):
                verdicts.append(f"stands a {many} " + model_stand(stand))
                told.append(0 <= many < len(way) and way[many] == stand)
            verdicts.append(f"short a {many}")
            told.append(is_whole and len(model_short(house, begin, row).split("\n")) == many)
        verdicts += ["same a b", "same b a", "same a a", "same a c", "ends c none", "breaks c 0", "short c 1"]
        is_same = is_whole and is_far_whole and way[-1] == far_way[-1]
        return verdicts, told + [is_same, is_same, is_whole, False, False, False, False]

    def test_powers(self):
        found = set()
        for name in ("two members", "no limit", "each can bring it up", "one member", "nothing may be moved"):
            house = SMALL[name]
            for text in lots(house[1])[:2]:
                begin = first_stand(house, text, len(house[0]) - 1)
                things, verdicts, told = [], [], []
                over = {stand[1] for stand in graph(house, begin) if stand[0] == "over"}
                goals = all_goals(house)
                for number, goal in enumerate(goals):
                    things.append(("goal", "g" + "abcdefghijklmnop"[number], goal))
                    verdicts.append("comes " + things[-1][1])
                    told.append(bool(over & set(goal)))
                    for lot in lots(len(house[0])):
                        lot_name = "l" + "".join("xyzuv"[member] for member in lot)
                        things.append(("lot", lot_name, lot))
                        others = tuple(one for one in range(len(house[0])) if one not in lot)
                        verdicts += [f"forces {lot_name} {things[-2][1]}", f"bars {lot_name} {things[-2][1]}"]
                        told += [begin in force_numbers(house, begin, lot, goal),
                                 begin not in force_numbers(house, begin, others, goal)]
                        things[-2:] = things[-1:] + things[-2:-1]
                answer = judged(sheet_of(house, text, len(house[0]) - 1, things, verdicts))
                self.assertEqual(answer, tuple(told))
                found |= {(line.split(" ")[0], each) for line, each in zip(verdicts, answer)}
        self.assertEqual(len(found), 6)

    def test_names_that_are_not_there(self):
        things = [("row", "r", (PASS,)), ("lot", "l", (0, 1, 2)), ("goal", "g", ((),))]
        verdicts = ["forces l g", "forces g l", "forces r g", "forces l r", "bars l x", "bars x g", "comes l",
                    "comes r",
                    "comes g", "ends l none", "same r l", "same g r", "short g 1", "short r 1", "stands l 0 over none",
                    "breaks g 0"]
        self.assertEqual(judged(sheet_of(HOUSE, (), 0, things, verdicts)),
                         (True, False, False, False, False, False, False, False, True, False, False, False, False, True,
                          False, False))

    def test_the_last_one_of_a_name_counts(self):
        things = [("goal", "g", ()), ("lot", "l", ()), ("row", "r", ()), ("goal", "g", ((),)), ("lot", "l", (0, 1, 2)),
                  ("row", "r", (PASS,) * 3)]
        self.assertEqual(judged(sheet_of(HOUSE, (), 0, things,
                                         ["forces l g", "ends r none", "short r 1", "breaks r 0"])),
                         (True, True, True, False))

    def test_too_great(self):
        things = [("row", "r", (PASS,) * 3), ("lot", "l", (0,)), ("goal", "g", ((),)), ("goal", "n", ())]
        self.assertEqual(judged(sheet_of(GREAT, (), 0, things, ["ends r none", "same r r", "forces x g", "comes l"])),
                         (True, True, False, False))
        for line in ("forces l g", "bars l g", "comes g", "comes n", "forces l n"):
            text = sheet_of(GREAT, (), 0, things, ["ends r none", line, "ends r none"])
            check_refused(self, TooGreat, {"most": 3000}, judged, text)
            self.assertEqual(sheet_told(text)[0], GREAT)
            check_refused(self, BadLot, {"number": 0}, judged,
                          sheet_of(GREAT, (), 0, things + [("lot", "m", (7,))], [line]))


if __name__ == "__main__":
    unittest.main()

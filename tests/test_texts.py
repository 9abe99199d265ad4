"""floorpowers/texts.py: texts there and back, short texts, and the first word that can't stand in a text."""

import unittest

from floorpowers.errors import BadAct, BadHouse, BadMotion, BadRow, BadStand, BadWords
from floorpowers.texts import (act_text, house_text, motion_text, read_act, read_house, read_motion, read_row,
                               read_short, read_stand, row_text, short_text, stand_text)
import forms
from helpers import OtherStr, check_refused, strange_values
from sittings import (FULL, GREAT, HALF, NOBODY, SMALL, acts, after, all_acts, all_rows, book, drawn, drawn_row,
                      first_stand, graph, is_carried, lots, motions)
from test_webs import odd_stand

ALL = list(SMALL.values()) + [GREAT, ((99, 1, 7, 8, 50), 3, book(put=(0, (9, 9, True))), (4, 4, 4, 4, 4), 9)]
HOUSE = ((2, 1, 1), 2, FULL, (1, 2, 0), 3)
BEGIN = first_stand(HOUSE)
PASS = ("pass",)
STRANGE_WORDS = ["", "none", "bare", "0", "1", "2", "-1", "-0", "00", "01", "+1", "1.0", "-01", "-", "999999999",
                 "1000000000", "-999999999", "-1000000000", "then", "or", "pass", "move", "vote", "put", "amend", "lay",
                 "take", "close", "end", "over", "floor", "table", "pile", "open", "closed", "turn", "passes", "left",
                 "members", "clauses", "next", "limit", "more", "least", "yes", "no", "None", "True", "PASS", "Put",
                 "begin", "row", "lot", "goal", "never", "ends", "abc", "abcdefgh", "abcdefghi", "a1", "short", "1_0"]


def set_words(items):
    """The words of a text of clauses or a lot."""
    return " ".join(str(item) for item in items) or "none"


def model_motion(motion):
    """The text of a motion."""
    if motion[0] == "put":
        return "put " + set_words(motion[1])
    return " ".join(str(each) for each in motion)


def model_act(act):
    """The text of an act."""
    return {"pass": lambda: "pass", "move": lambda: "move " + model_motion(act[1]),
            "vote": lambda: "vote " + set_words(act[1])}[act[0]]()


def model_stand(stand):
    """The text of a stand."""
    if stand[0] == "over":
        return "over " + set_words(stand[1])
    _, text, table, pile, is_closed, turn, passes, left = stand
    words = ["floor", set_words(text), "table", "bare" if table is None else set_words(table), "pile",
             " then ".join(model_motion(motion) for motion in pile) or "none", "closed" if is_closed else "open",
             "turn", str(turn), "passes", str(passes), "left", "bare" if left is None else str(left)]
    return " ".join(words)


def model_house(house):
    """The text of a house."""
    lines = ["members " + " ".join(str(weight) for weight in house[0]), "clauses " + str(house[1])]
    for kind, rank, (part, whole, is_more) in house[2]:
        lines.append(" ".join([kind, str(rank), str(part), str(whole), "more" if is_more else "least"]))
    return "\n".join(lines + ["next " + " ".join(str(member) for member in house[3]),
                              "limit " + ("bare" if house[4] is None else str(house[4]))])


def model_short(house, stand, row):
    """The short text of a row, line by line."""
    lines = []
    for act in row:
        behind = after(house, stand, act)
        if act == PASS:
            if lines and lines[-1][0] == "pass":
                lines[-1] = ("pass", lines[-1][1] + 1)
            else:
                lines.append(("pass", 1))
        elif act[0] == "move":
            lines.append((model_act(act), 0))
        else:
            lines.append(("no" if behind == after(house, stand, ("vote", ())) else "yes", 0))
        stand = behind
    return "\n".join(text if count < 2 else f"{text} {count}" for text, count in lines) or "none"


def mutations(text, state, most):
    """Texts with a word, a blank or a line otherwise, drawn always in the same way."""
    told = []
    lines = [line.split(" ") for line in text.split("\n")]
    for _ in range(most):
        new = [list(words) for words in lines]
        sort, state = drawn(state, 9)
        at, state = drawn(state, len(new))
        place, state = drawn(state, len(new[at]))
        strange, state = drawn(state, len(STRANGE_WORDS))
        other, state = drawn(state, len(new))
        if sort in (0, 1, 2):
            new[at][place] = STRANGE_WORDS[strange]
        elif sort == 3:
            new[at].insert(place, STRANGE_WORDS[strange])
        elif sort == 4:
            new[at].append(STRANGE_WORDS[strange])
        elif sort == 5:
            del new[at][place]
        elif sort == 6:
            new.insert(other, list(new[at]))
        elif sort == 7:
            del new[at]
        else:
            new[at], new[other] = new[other], new[at]
        told.append("\n".join(" ".join(words) for words in new))
    return told + [text + "\n", "\n" + text, text + " ", " " + text, text.replace(" ", "  ", 1), text + "\n" + text, ""]


class ThereAndBackTest(unittest.TestCase):

    def test_houses(self):
        for house in ALL:
            self.assertEqual(house_text(house), model_house(house))
            self.assertEqual(read_house(model_house(house)), house)
        state = 5
        for _ in range(200):
            house, state = self.drawn_house(state)
            self.assertEqual(house_text(house), model_house(house))
            self.assertEqual(read_house(OtherStr(house_text(house))), house)

    def drawn_house(self, state):
        """A house, drawn always in the same way."""
        many, state = drawn(state, 5)
        weights, follow, rules = (), (), {}
        for _ in range(many + 1):
            weight, state = drawn(state, 99)
            behind, state = drawn(state, many + 1)
            weights, follow = weights + (weight + 1,), follow + (behind,)
        for kind in forms.KINDS:
            told, state = drawn(state, 3)
            rank, state = drawn(state, 10)
            whole, state = drawn(state, 9)
            part, state = drawn(state, whole + 1)
            if kind == "put" or told:
                rules[kind] = (rank, (part + 1, whole + 1, told == 2))
        clauses, state = drawn(state, 3)
        limit, state = drawn(state, 11)
        return (weights, clauses + 1, book(**rules), follow, None if limit == 10 else limit), state

    def test_motions_acts_rows(self):
        for house in ALL:
            for motion in motions(house):
                self.assertEqual(motion_text(house, motion), model_motion(motion))
                self.assertEqual(read_motion(house, model_motion(motion)), motion)
            told = all_acts(house)
            for act in told:
                self.assertEqual(act_text(house, act), model_act(act))
                self.assertEqual(read_act(house, model_act(act)), act)
            rows = [drawn_row(house, first_stand(house), state, 9) for state in range(5)]
            for row in [(), told[:1], told, told[::-2]] + rows:
                row = tuple(row)
                text = "\n".join(model_act(act) for act in row) or "none"
                self.assertEqual(row_text(house, row), text)
                self.assertEqual(read_row(house, text), row)

    def test_stands(self):
        for house in list(SMALL.values()) + [HOUSE]:
            stands = sorted(graph(house, first_stand(house)), key=repr)
            for stand in stands[::max(1, len(stands) // 150)] + [odd_stand(house), ("over", ()), ("over", (0,))]:
                self.assertEqual(stand_text(house, stand), model_stand(stand))
                self.assertEqual(read_stand(house, model_stand(stand)), stand)
        text = "floor 0 1 table none pile put none then amend 1 then lay then close open turn 2 passes 3 left 0"
        stand = ("floor", (0, 1), (), (("put", ()), ("amend", 1), ("lay",), ("close",)), False, 2, 3, 0)
        self.assertEqual(read_stand(HOUSE, text), stand)
        self.assertEqual(stand_text(HOUSE, stand), text)

    def test_told_out(self):
        self.assertEqual(house_text(SMALL["no limit"]),
                         "members 1\nclauses 1\nput 1 1 2 more\nend 4 1 2 more\nnext 0\nlimit bare")
        self.assertEqual(row_text(HOUSE, (("move", ("put", (0, 1))), PASS, ("vote", ()), ("vote", (0, 2)))),
                         "move put 0 1\npass\nvote none\nvote 0 2")
        self.assertEqual(row_text(HOUSE, ()), "none")
        self.assertEqual(stand_text(HOUSE, ("over", ())), "over none")
        self.assertEqual(stand_text(HOUSE, BEGIN),
                         "floor none table bare pile none open turn 0 passes 0 left 3")


class FormsTest(unittest.TestCase):

    def check(self, form, text, read, refusals, *ahead):
        """Check a reading by the form that is worked out apart; what has the form may be refused by its own error."""
        fault = forms.fault_of(form, text)
        if fault is not None:
            check_refused(self, BadWords, {"line": fault[0], "word": fault[1]}, read, *ahead, text)
            return "words"
        try:
            read(*ahead, text)
        except refusals:
            return "refused"
        return "right"

    def check_all(self, form, texts, read, refusals, *ahead, most=60):
        found = {}
        for number, text in enumerate(texts):
            self.assertEqual(self.check(form, text, read, refusals, *ahead), "right", text)
            for wrong in mutations(text, 31 * number + 7, most):
                told = self.check(form, wrong, read, refusals, *ahead)
                found[told] = found.get(told, 0) + 1
        self.assertTrue(found["words"] > 50 and found.get("refused", 0) > 3 and found.get("right", 0) > 0, found)

    def test_houses(self):
        self.check_all(forms.house, [model_house(house) for house in ALL], read_house, BadHouse, most=120)

    def test_motions(self):
        self.check_all(forms.motion, [model_motion(each) for each in motions(HOUSE)], read_motion, BadMotion, HOUSE)

    def test_acts(self):
        self.check_all(forms.act, [model_act(each) for each in all_acts(HOUSE)], read_act, BadAct, HOUSE, most=40)

    def test_rows(self):
        rows = [drawn_row(HOUSE, BEGIN, state, 7) for state in range(8)] + [()]
        texts = ["\n".join(model_act(act) for act in each) or "none" for each in rows]
        self.check_all(forms.row, texts, read_row, BadRow, HOUSE, most=400)

    def test_stands(self):
        stands = sorted(graph(HOUSE, BEGIN), key=repr)[::400] + [odd_stand(HOUSE), ("over", (0, 1))]
        stands.append(("floor", (0, 1), (), (("put", (1,)), ("amend", 1), ("lay",), ("close",)), False, 2, 3, 0))
        self.check_all(forms.stand, [model_stand(each) for each in stands], read_stand, BadStand, HOUSE, most=100)

    def test_shorts(self):
        rows = [drawn_row(HOUSE, BEGIN, state, 14) for state in range(9)] + [()]
        texts = [model_short(HOUSE, BEGIN, each) for each in rows]
        self.check_all(forms.short, texts, read_short, BadRow, HOUSE, BEGIN)

    def check_words(self, read, text, line, word, *ahead):
        check_refused(self, BadWords, {"line": line, "word": word}, read, *ahead, text)

    def test_told_out(self):
        house = model_house(SMALL["no limit"])
        lines = house.split("\n")
        for text, line, word in (("", 0, 0), ("members", 0, 1), ("members 1", 1, 0), ("members 1 2 3 4 5 6", 0, 6),
                                 ("member 1", 0, 0), ("members x", 0, 1), ("members 1\nclauses", 1, 1),
                                 ("members 1\n\nclauses 1", 1, 0), (house + "\n", 6, 0), (house + "\nlimit 1", 6, 0),
                                 (house + " 3", 5, 2), ("\n".join(lines[:2] + lines[3:]), 2, 0),
                                 ("\n".join(lines[:2] + lines[3:4] + lines[2:3] + lines[4:]), 2, 0),
                                 ("\n".join(lines[:4] + lines[3:]), 4, 0), ("\n".join(lines[:3]), 3, 0),
                                 (house.replace("1 2 more", "1 2 much", 1), 2, 4),
                                 (house.replace("1 1 2", "1 1"), 2, 3),
                                 (house.replace("limit bare", "limit none"), 5, 1), (" " + house, 0, 0),
                                 (house.replace("clauses 1", "clauses 01"), 1, 1), (house + " ", 5, 2),
                                 (house.replace("clauses 1", "clauses 1234567890"), 1, 1),
                                 (house.replace("clauses 1", "clauses -0"), 1, 1)):
            self.check_words(read_house, text, line, word)
        for text, line, word in (("put", 0, 1), ("put 0 0", 0, 2), ("put 1 0", 0, 2), ("put none 0", 0, 2), ("", 0, 0),
                                 ("amend", 0, 1), ("amend 0 1", 0, 2), ("lay 0", 0, 1), ("pass", 0, 0), ("put ", 0, 1),
                                 ("put 0\n", 1, 0), ("put 0\nlay", 1, 0)):
            self.check_words(read_motion, text, line, word, HOUSE)
        nine = "floor none table bare pile " + " then ".join(["put 0"] * 9) + " open turn 0 passes 0 left 3"
        six = "floor none table bare pile " + " then ".join(["put 0"] * 6) + " open turn 0 passes 0 left 3"
        self.check_words(read_stand, nine, 0, 5 + 17, HOUSE)
        check_refused(self, BadStand, {"place": "pile"}, read_stand, HOUSE, six)
        for text, line, word in (("none\nnone", 1, 0), ("pass\nnone", 1, 0), ("pass\n", 1, 0), ("pass pass", 0, 1),
                                 ("pass\n\npass", 1, 0), ("none\npass", 1, 0), ("move\npass", 0, 1), ("vote", 0, 1)):
            self.check_words(read_row, text, line, word, HOUSE)
        for text, line, word in (("pass 1", 0, 1), ("pass 100", 0, 1), ("pass 0", 0, 1), ("pass 2 2", 0, 2),
                                 ("pass\npass", 1, 0), ("pass 2\npass 2", 1, 0), ("yes no", 0, 1), ("vote 0", 0, 0),
                                 ("none\nno", 1, 0), ("no\nnone", 1, 0), ("pass 02", 0, 1), ("pass -2", 0, 1)):
            self.check_words(read_short, text, line, word, HOUSE, BEGIN)

    def test_no_strings(self):
        for value in strange_values():
            if not isinstance(value, str):
                self.check_words(read_house, value, None, None)
                for read in (read_motion, read_act, read_row, read_stand):
                    self.check_words(read, value, None, None, HOUSE)
                    check_refused(self, BadHouse, {"place": None}, read, None, value)
                self.check_words(read_short, value, None, None, HOUSE, BEGIN)
                check_refused(self, BadStand, {"place": None}, read_short, HOUSE, None, value)

    def test_what_has_the_form_and_is_none(self):
        house = model_house(HOUSE)
        for old, new, place in (("members 2 1 1", "members 2 1 0", "weights"),
                                ("members 2 1 1", "members -5", "weights"),
                                ("clauses 2", "clauses 4", "clauses"), ("put 1 1 2", "put 10 1 2", "book"),
                                ("put 1 1 2", "put 1 3 2", "book"), ("next 1 2 0", "next 1 2 3", "next"),
                                ("next 1 2 0", "next 1 2", "next"), ("limit 3", "limit 10", "limit"),
                                ("limit 3", "limit -1", "limit")):
            check_refused(self, BadHouse, {"place": place}, read_house, house.replace(old, new))
        for text, place in (("put none", "change"), ("put 2", "change"), ("amend 2", "clause"), ("put -1 0", "change")):
            check_refused(self, BadMotion, {"place": place}, read_motion, HOUSE, text)
            check_refused(self, BadAct, {"place": None}, read_act, HOUSE, "move " + text)
            check_refused(self, BadRow, {"place": 1}, read_row, HOUSE, "pass\nmove " + text + "\nvote 9")
        plain = SMALL["put alone"]
        check_refused(self, BadMotion, {"place": None}, read_motion, plain, "lay")
        check_refused(self, BadAct, {"place": None}, read_act, plain, "move end")
        check_refused(self, BadAct, {"place": None}, read_act, HOUSE, "vote 0 3")
        begin = model_stand(BEGIN)
        for old, new, place in (("floor none", "floor 2", "text"), ("table bare", "table 3", "table"),
                                ("pile none", "pile lay", "pile"), ("open", "closed", "closed"),
                                ("turn 0", "turn 3", "turn"), ("passes 0", "passes 3", "passes"),
                                ("left 3", "left 4", "left"), ("left 3", "left bare", "left")):
            check_refused(self, BadStand, {"place": place}, read_stand, HOUSE, begin.replace(old, new))
        check_refused(self, BadStand, {"place": "text"}, read_stand, HOUSE, "over 2")


class ShortTest(unittest.TestCase):

    def test_all_rows_of_few_acts(self):
        for name, most in (("one member", 5), ("no limit", 6), ("each can bring it up", 5), ("nobody carries", 5),
                           ("two members", 4)):
            house = SMALL[name]
            for stand in (first_stand(house), odd_stand(house)):
                ways = {}
                for row, way in all_rows(graph(house, stand), stand, most):
                    text = short_text(house, stand, row)
                    self.assertEqual(text, model_short(house, stand, row))
                    ways.setdefault(text, way)
                    self.assertEqual(ways[text], way)
                    back = read_short(house, stand, text)
                    self.assertEqual(short_text(house, stand, back), text)
                    self.assertEqual(len(back), len(row))
                self.assertEqual(len(set(ways.values())), len(ways))

    def test_read_votes(self):
        house = ((1, 2, 2, 1), 1, book(put=(1, HALF), end=(3, (1, 6, False)), close=(2, NOBODY)), (1, 2, 3, 0), 3)
        begin = first_stand(house)
        move, yes = ("move", ("put", (0,))), [("vote", lot) for lot in lots(4) if is_carried(house, ("put", (0,)), lot)]
        least = min(yes, key=lambda vote: (len(vote[1]), vote))
        self.assertEqual(least, ("vote", (1, 2)))
        self.assertEqual(read_short(house, begin, "move put 0\npass 4\nyes"), (move,) + (PASS,) * 4 + (least,))
        self.assertEqual(read_short(house, begin, "move put 0\npass 4\nno\npass"),
                         (move,) + (PASS,) * 4 + (("vote", ()), PASS))
        self.assertEqual(read_short(house, begin, "move put 0\nmove end\npass 4\nyes"),
                         (move, ("move", ("end",))) + (PASS,) * 4 + (("vote", (0,)),))
        self.assertEqual(read_short(house, begin, "none"), ())
        for text, line in (("yes", 0), ("no", 0), ("pass 5", 0), ("pass 99", 0), ("pass 4\nmove put 0", 1),
                           ("move put 0\npass 3\nyes", 2), ("move put 0\npass 5", 1), ("move put none", 0),
                           ("move put 1", 0), ("pass\nmove lay", 1), ("move put 0\nmove close\npass 4\nyes", 3),
                           ("move close", 0), ("move put 0\npass 4\nyes\nyes", 3), ("move put 0\npass 4\nmove end", 2)):
            check_refused(self, BadRow, {"place": line}, read_short, house, begin, text)
        self.assertEqual(len(read_short(house, begin, "move put 0\nmove close\npass 4\nno")), 7)

    def test_yes_where_nothing_comes_of_it(self):
        empty = ("floor", (), None, (("put", ()),), False, 0, 3, 3)
        self.assertEqual(short_text(HOUSE, empty, (("vote", (0, 1, 2)),)), "no")
        self.assertEqual(read_short(HOUSE, empty, "no"), (("vote", ()),))
        check_refused(self, BadRow, {"place": 0}, read_short, HOUSE, empty, "yes")

    def test_many_passes(self):
        rows = {1: "pass", 2: "pass 2", 3: "pass 3"}
        for many, text in rows.items():
            self.assertEqual(short_text(HOUSE, BEGIN, (PASS,) * many), text)
            self.assertEqual(read_short(HOUSE, BEGIN, text), (PASS,) * many)


class RefusalsTest(unittest.TestCase):

    def test_texts_of_what_is_none(self):
        for value in strange_values():
            check_refused(self, BadHouse, {"place": None}, house_text, value)
            check_refused(self, BadMotion, {"place": None}, motion_text, HOUSE, value)
            check_refused(self, BadAct, {"place": None}, act_text, HOUSE, value)
            check_refused(self, BadRow, {"place": None}, row_text, HOUSE, value)
            check_refused(self, BadRow, {"place": 1}, row_text, HOUSE, (("vote", ()), value, None))
            check_refused(self, BadStand, {"place": None}, stand_text, HOUSE, value)
            check_refused(self, BadRow, {"place": None}, short_text, HOUSE, BEGIN, value)
            check_refused(self, BadRow, {"place": 1}, short_text, HOUSE, BEGIN, (PASS, value))
        check_refused(self, BadMotion, {"place": "change"}, motion_text, HOUSE, ("put", ()))
        check_refused(self, BadStand, {"place": "left"}, stand_text, HOUSE, BEGIN[:7] + (4,))
        check_refused(self, BadRow, {"place": 0}, short_text, HOUSE, BEGIN, (("vote", ()),))
        self.assertEqual(acts(HOUSE, BEGIN)[-1], PASS)


if __name__ == "__main__":
    unittest.main()

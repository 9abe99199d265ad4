"""floorpowers/desk.py: each sort of line in each state, lines that are none, and what stays told."""

import inspect
import unittest

from floorpowers.desk import Desk
from floorpowers.leading import Led
from floorpowers.live import Sitting
import forms
from helpers import OtherStr, strange_values
from models import least_sets
from sittings import FULL, GREAT, SMALL, acts, after, drawn, first_stand, is_carried, lots
from test_leading import due_at, numbers_of, own_act, own_yes
from test_texts import STRANGE_WORDS, model_act, model_house, model_short, model_stand, set_words

HOUSE = ((2, 1, 1), 1, FULL, (1, 2, 0), 2)
HOUSES = [HOUSE, SMALL["two members"], SMALL["no limit"], SMALL["each can bring it up"], SMALL["put alone"]]
LINES = [model_house(house).split("\n") for house in HOUSES]
PASS = ("pass",)
ASKS = ["may", "carriers", "stand", "row", "short", "due", "left"]


def told(desk, house):
    """Tell a desk a house."""
    return [desk.say(line) for line in model_house(house).split("\n")]


def begun(house, text=(), member=0):
    """A desk with a sitting."""
    desk = Desk()
    told(desk, house)
    desk.say(f"begin {set_words(text)} turn {member}")
    return desk


def items_of(words):
    """The integers of the words of a lot or a text."""
    return () if words == ["none"] else tuple(int(word) for word in words)


def house_of(text):
    """The house of a text whose lines are all right ones of houses, None if they don't go together."""
    lines = [line.split(" ") for line in text.split("\n")]
    weights, follow = items_of(lines[0][1:]), items_of(lines[-2][1:])
    rules = tuple((kind, int(rank), (int(part), int(whole), how == "more"))
                  for kind, rank, part, whole, how in lines[2:-2])
    limit = None if lines[-1][1] == "bare" else int(lines[-1][1])
    if len(follow) != len(weights) or max(follow) >= len(weights):
        return None
    return (weights, int(lines[1][1]), rules, follow, limit)


class Model:
    """A desk by the words: lines told, the house, the sitting's first stand and acts, who is led from where."""

    def __init__(self):
        self.lines, self.house, self.first, self.row, self.led = [], None, None, (), None
        self.lot, self.goal = (), ()

    def stand(self):
        stand = self.first
        for act in self.row:
            stand = after(self.house, stand, act)
        return stand

    def say(self, line):
        word = line.split(" ")[0]
        if word in forms.KINDS + ("members", "clauses", "next", "limit"):
            return self.say_house(line, word)
        if word == "begin":
            return self.say_begin(line)
        if self.first is None or "\n" in line:
            return "no"
        if word in ("pass", "move", "vote"):
            return self.say_act(line)
        if word in ("lot", "goal"):
            form = forms.seq(forms.word(word), forms.subset if word == "lot" else forms.goal)
            if forms.fault_of(form, line) is not None:
                return "no"
            things = " ".join(line.split(" ")[1:])
            if word == "lot":
                self.lot = items_of(things.split(" "))
            else:
                texts = [] if things == "never" else things.split(" or ")
                self.goal = tuple(items_of(each.split(" ")) for each in texts)
            return "done"
        return self.say_word(line)

    def say_house(self, line, word):
        lines = [line] if word == "members" else self.lines + [line]
        text = "\n".join(lines)
        fault = forms.fault_of(forms.house, text)
        if "\n" in line or (fault is not None and fault != (len(lines), 0)):
            return "no"
        house = house_of(text) if fault is None else None
        if fault is None and house is None:
            return "no"
        self.lines, self.house, self.first, self.row, self.led = lines, house, None, (), None
        return "done"

    def say_begin(self, line):
        if self.house is None or forms.fault_of(forms.begin, line) is not None:
            return "no"
        words = line.split(" ")
        text, member = items_of(words[1:-2]), int(words[-1])
        if text not in lots(self.house[1]) or not 0 <= member < len(self.house[0]):
            return "no"
        self.first, self.row, self.led = first_stand(self.house, text, member), (), None
        return "done"

    def numbers(self):
        first, lot, goal, word = self.led
        return numbers_of(self.house, first, lot, goal, word)

    def say_act(self, line):
        stand = self.stand()
        act = [each for each in acts(self.house, stand) if model_act(each) == line]
        if not act or len(self.row) >= 200:
            return "no"
        act = act[0]
        if self.led is not None:
            lot = self.led[1]
            if act[0] == "vote":
                if set(act[1]) & set(lot):
                    return "no"
                mine = lot if own_yes(self.house, stand, lot, self.numbers(), self.led[3]) else ()
                act = ("vote", tuple(sorted(act[1] + mine)))
            elif stand[5] in lot:
                return "no"
        return self.done(act)

    def done(self, act):
        self.row += (act,)
        return model_stand(self.stand()) if self.stand()[0] == "over" else "done"

    def say_word(self, word):
        stand, house = self.stand(), self.house
        if word in ("force", "bar"):
            if self.lot not in lots(len(house[0])) or list(self.goal) != sorted(set(self.goal) & set(lots(house[1]))):
                return "no"
            can = (stand in numbers_of(house, stand, self.lot, self.goal, word)) == (word == "force")
            if not can:
                return "no plan"
            self.first, self.row, self.led = stand, (), (stand, self.lot, self.goal, word)
            return "done"
        if word == "back":
            if not self.row:
                return "nothing"
            self.row = self.row[:-1]
            return "done"
        is_put = stand[0] == "floor" and stand[6] == len(house[0])
        if word == "may":
            return " or ".join(model_act(act) for act in acts(house, stand) if not is_put) or "none"
        if word == "carriers":
            carrying = [lot for lot in lots(len(house[0])) if is_put and is_carried(house, stand[3][-1], lot)]
            return " or ".join(set_words(lot) for lot in least_sets(carrying)) or "none"
        if word == "stand":
            return model_stand(stand)
        if word == "row":
            return " then ".join(model_act(act) for act in self.row) or "none"
        if word == "short":
            return model_short(house, self.first, self.row).replace("\n", " then ")
        return self.say_led(word, stand)

    def say_led(self, word, stand):
        if self.led is None:
            return "no"
        _, lot, _, kind = self.led
        due = due_at(self.house, stand, lot)
        if word == "due":
            return due
        if word == "left":
            return str(self.numbers()[stand]) if kind == "force" else "bare"
        if word == "stop":
            self.led = None
            return "done"
        if word == "go" and due == "own":
            act = own_act(self.house, stand, lot, self.numbers(), kind)
            self.done(act)
            return model_act(act)
        return "no"


class DrawnLinesTest(unittest.TestCase):

    def pools(self, model):
        """Lines of all sorts; some that are right where the model is."""
        right = []
        if model.first is not None:
            right = [model_act(act) for act in acts(model.house, model.stand())]
            if model.led is not None and right and right[0][:4] == "vote":
                right = [line for line in right if not set(items_of(line.split(" ")[1:])) & set(model.led[1])]
        more = ["begin none turn 0", "begin 0 turn 0", "begin none turn 1", "begin none turn 7", "begin 5 turn 0",
                "begin",
                "begin none", "begin none turn", "begin none turn 0 0", "lot none", "lot 0", "lot 0 1", "lot 1",
                "lot 4",
                "lot", "lot 1 0", "lot never", "goal never", "goal none", "goal 0", "goal none or 0", "goal 0 or none",
                "goal 9", "goal", "goal never or 0", "goal or", "goal x 0", "force", "bar", "force 0", "bar none",
                "back", "back 1", "stop", "stop now", "go", "go on", "go", "go", "go", "due", "due ", " due", "may\n",
                "pass\npass",
                "members 1\nclauses 1", ""]
        return [right or ASKS, right or ASKS, right or ASKS, ["go", "go", "pass"], ASKS, more, STRANGE_WORDS,
                ["force", "bar", "lot 0", "goal none", "goal 0", "stop", "back", "lot 0 1"]]

    def test_walks(self):
        found = {}
        for start in range(200):
            desk, model, state = Desk(), Model(), 1000 * start + 1
            for number in range(100):
                line, state = self.draw_line(model, number, start, state)
                answer = model.say(line)
                self.assertEqual(desk.say(line), answer, (line, model.house, model.row, model.led))
                self.check_state(desk, model)
                found[line.split(" ")[0], answer.split(" ")[0]] = True
        for pair in (("pass", "over"), ("force", "no"), ("force", "done"), ("bar", "done"), ("bar", "no"),
                     ("go", "move"),
                     ("go", "pass"), ("go", "no"), ("left", "bare"), ("back", "nothing"), ("stop", "done"),
                     ("vote", "done"),
                     ("due", "question"), ("due", "over"), ("due", "own"), ("due", "others"), ("members", "done"),
                     ("carriers", "none"), ("short", "none"), ("limit", "done"), ("goal", "no"), ("lot", "no")):
            self.assertIn(pair, found)

    def draw_line(self, model, number, start, state):
        """The next line: first those of a house, later any sort; at times lines of houses again."""
        lines = LINES[start % len(LINES)]
        if number < len(lines):
            return lines[number], state
        if number == len(lines):
            return "begin none turn 0", state
        sort, state = drawn(state, 60)
        if sort == 0 or (model.house is None and sort < 50):
            if sort and len(model.lines) < len(lines) and model.lines == lines[:len(model.lines)]:
                return lines[len(model.lines)], state
            at, state = drawn(state, len(lines))
            return lines[at], state
        pools = self.pools(model)
        pool, state = drawn(state, len(pools))
        at, state = drawn(state, len(pools[pool]))
        return pools[pool][at], state

    def check_state(self, desk, model):
        self.assertEqual(desk.house, model.house)
        if model.first is None:
            self.assertEqual((desk.sitting, desk.led_one), (None, None))
            return
        self.assertEqual((desk.sitting.stand, desk.sitting.row, len(desk.sitting)),
                         (model.stand(), model.row, len(model.row)))
        self.assertEqual(desk.led_one is None, model.led is None)
        if model.led is not None:
            self.assertEqual((desk.led_one.stand, len(desk.led_one)), (model.stand(), len(model.row)))


class ToldAsMay:
    """What is told as a line, but is no string."""

    def __str__(self):
        return "may"

    def split(self, sign):
        return ["may"]


class LinesTest(unittest.TestCase):

    def test_told_out(self):
        desk = Desk()
        self.assertEqual((desk.house, desk.sitting, desk.led_one), (None, None, None))
        self.assertEqual(told(desk, HOUSE), ["done"] * 10)
        self.assertEqual(desk.house, HOUSE)
        talk = [("begin 0 turn 1", "done"), ("may", "move end or move put 0 or pass"), ("carriers", "none"),
                ("stand", "floor 0 table bare pile none open turn 1 passes 0 left 2"), ("row", "none"),
                ("short", "none"), ("move put 0", "done"), ("pass", "done"), ("pass", "done"), ("pass", "done"),
                ("may", "none"), ("carriers", "0 1 or 0 2"), ("short", "move put 0 then pass 3"), ("pass", "no"),
                ("vote 1 2", "done"), ("row", "move put 0 then pass then pass then pass then vote 1 2"),
                ("short", "move put 0 then pass 3 then no"), ("back", "done"), ("vote 0 1", "done"), ("pass", "done"),
                ("pass", "done"), ("pass", "over none"), ("may", "none"), ("stand", "over none"), ("pass", "no"),
                ("back", "done"), ("pass", "over none"), ("due", "no"), ("go", "no"), ("left", "no"), ("stop", "no"),
                ("force", "no plan"), ("bar", "done"), ("due", "over"), ("left", "bare"), ("row", "none"),
                ("back", "nothing"), ("stop", "done"), ("back", "nothing"), ("begin none turn 0", "done"),
                ("lot 0 1", "done"), ("goal 0", "done"), ("pass", "done"), ("force", "done"), ("row", "none"),
                ("left", "13"), ("due", "own"), ("pass", "no")]
        for line, answer in talk:
            self.assertEqual(desk.say(line), answer, line)

    def test_what_is_the_very_one(self):
        desk = begun(HOUSE)
        sitting = desk.sitting
        self.assertIs(type(sitting), Sitting)
        self.assertIs(desk.sitting, sitting)
        self.assertIs(desk.house, desk.house)
        desk.say("pass")
        self.assertIs(desk.sitting, sitting)
        self.assertEqual(sitting.row, (PASS,))
        desk.say("lot 0 1")
        desk.say("goal none")
        self.assertEqual(desk.say("force"), "done")
        led, inner = desk.led_one, desk.sitting
        self.assertIs(type(led), Led)
        self.assertIsNot(inner, sitting)
        self.assertEqual(sitting.row, (PASS,))
        led.go()
        self.assertEqual(len(inner), 1)
        self.assertIs(desk.led_one, led)
        self.assertEqual(desk.say("row"), model_act(inner.row[0]))
        desk.say("stop")
        self.assertEqual((desk.led_one, desk.sitting is inner), (None, True))
        self.assertEqual(desk.say("back"), "done")
        self.assertEqual(desk.say("back"), "nothing")

    def test_the_very_sitting_moved_by_somebody_else(self):
        house = ((1, 1), 1, FULL, (1, 0), 1)
        for word, lot, goal, act in (("force", "0 1", "0", ("move", ("end",))),
                                     ("bar", "0", "0", ("move", ("put", (0,))))):
            desk = begun(house)
            for line in ("lot " + lot, "goal " + goal, word):
                self.assertEqual(desk.say(line), "done")
            desk.sitting.do(act)
            while not desk.sitting.is_at_end and len(desk.sitting) < 12:
                before = desk.sitting.row
                if desk.say("due") == "own" and desk.say("go") == "no":
                    self.assertEqual(desk.sitting.row, before)
                    self.assertEqual(desk.say("left"), "bare")
                if desk.sitting.row == before:
                    desk.sitting.do(desk.sitting.may()[-1] if desk.sitting.may() else ("vote", (0, 1)))
            self.assertTrue(desk.sitting.is_at_end)
            self.assertEqual((desk.say("due"), desk.say("go"), desk.say("left")), ("over", "no", "bare"))

    def test_what_leaves_what(self):
        desk = begun(HOUSE)
        for line in ("lot 0 1", "goal none", "force"):
            desk.say(line)
        self.assertEqual(desk.say("clauses 1"), "no")
        self.assertEqual(desk.say("limit 2"), "no")
        self.assertIsNotNone(desk.led_one)
        desk.say("begin none turn 1")
        self.assertIsNone(desk.led_one)
        self.assertEqual(desk.sitting.stand, first_stand(HOUSE, (), 1))
        self.assertEqual(desk.say("force"), "done")
        self.assertEqual(desk.say("begin 7 turn 0"), "no")
        self.assertIsNotNone(desk.led_one)
        self.assertEqual(desk.say("members 0 x"), "no")
        self.assertIsNotNone(desk.sitting)
        self.assertEqual(desk.say("members 1 1"), "done")
        self.assertEqual((desk.house, desk.sitting, desk.led_one), (None, None, None))
        self.assertEqual([desk.say(line) for line in ("begin none turn 0", "may", "pass", "lot 0", "goal 0", "force",
                                                      "back", "stop", "due")], ["no"] * 9)
        self.assertEqual(told(desk, SMALL["two members"]), ["done"] * 10)
        desk.say("begin none turn 0")
        # The lot and the goal are still those told ahead.
        self.assertEqual(desk.say("force"), "done")
        self.assertEqual(desk.say("go"), "pass")

    def test_a_lot_or_goal_that_the_house_has_not(self):
        desk = begun(HOUSE)
        for line in ("lot 0 7", "lot -1", "goal 5", "goal 0 or none", "goal 1 or 1"):
            self.assertEqual(desk.say("lot 0 1"), "done")
            self.assertEqual(desk.say("goal none"), "done")
            self.assertEqual(desk.say(line), "done")
            self.assertEqual(desk.say("force"), "no")
            self.assertEqual(desk.say("bar"), "no")
            self.assertIsNone(desk.led_one)

    def test_a_house_that_is_none(self):
        desk = Desk()
        lines = model_house(HOUSE).split("\n")
        for line in ["members 0 1 1"] + lines[1:-1]:
            self.assertEqual(desk.say(line), "done")
        self.assertEqual(desk.say(lines[-1]), "no")
        self.assertEqual(desk.say("limit 99"), "no")
        self.assertIsNone(desk.house)
        self.assertEqual(desk.say("begin none turn 0"), "no")
        self.assertEqual([desk.say(line) for line in lines], ["done"] * 10)
        self.assertEqual(desk.house, HOUSE)
        for line in lines[:-1]:
            desk.say(line)
        self.assertEqual(desk.say("limit 11"), "no")
        self.assertIsNone(desk.house)
        self.assertEqual(desk.say(lines[-1]), "done")
        self.assertEqual(desk.house, HOUSE)

    def test_in_the_turn_of_a_house(self):
        lines = model_house(HOUSE).split("\n")
        for many in range(len(lines)):
            for other in range(len(lines)):
                desk = Desk()
                for line in lines[:many]:
                    self.assertEqual(desk.say(line), "done")
                fault = forms.fault_of(forms.house, "\n".join(lines[:many] + [lines[other]]))
                is_right = other == 0 or fault is None or fault == (many + 1, 0)
                self.assertEqual(desk.say(lines[other]), "done" if is_right else "no", (many, other))
                self.assertEqual(desk.house, HOUSE if fault is None else None)

    def test_values_of_any_kind(self):
        for desk in (Desk(), begun(HOUSE)):
            for value in strange_values() + [ToldAsMay(), ["may"], ("may",), b"may", 0, 1, "may ", " may", "may\n",
                                             "\n", "MAY", "may may",
                                             "over none", "floor", "none", "yes", "no", "row a", "lot a 0", "goal a 0"]:
                before = (desk.house, desk.sitting and desk.sitting.row)
                self.assertEqual(desk.say(value), "no", value)
                self.assertEqual(desk.say(line=value), "no")
                self.assertEqual((desk.house, desk.sitting and desk.sitting.row), before)
        self.assertEqual(begun(HOUSE).say(OtherStr("row")), "none")

    def test_lines_with_a_line_feed(self):
        lines = model_house(HOUSE).split("\n")
        for many in range(len(lines)):
            desk = Desk()
            for line in lines[:many]:
                desk.say(line)
            for wrong in (lines[many] + "\n", "\n" + lines[many], "\n".join(lines[many:many + 2] + [""])):
                self.assertEqual(desk.say(wrong), "no")
            self.assertIsNone(desk.house)
            self.assertEqual(desk.say(lines[many]), "done")
        for line in ("begin none turn 0\n", "pass\n", "lot 0\n", "goal 0\n", "force\n", "back\n", "pass\npass"):
            self.assertEqual(begun(HOUSE).say(line), "no")

    def test_too_great(self):
        desk = begun(GREAT)
        self.assertEqual(desk.say("pass"), "done")
        for word in ("force", "bar"):
            self.assertEqual(desk.say(word), "no")
        self.assertEqual((desk.led_one, desk.say("row")), (None, "pass"))
        desk = begun(SMALL["no limit"])
        for line in ["move put 0", "pass", "vote none"] * 66 + ["move put 0", "pass"]:
            self.assertEqual(desk.say(line), "done")
        self.assertEqual(desk.say("vote none"), "no")
        self.assertEqual((len(desk.sitting), desk.say("back"), desk.say("pass")), (200, "done", "done"))

    def test_the_class(self):
        for name in ("__init__", "say"):
            self.assertTrue(inspect.isfunction(vars(Desk)[name]))
        for name in ("house", "sitting", "led_one"):
            self.assertIsInstance(vars(Desk)[name], property)
        self.assertEqual(Desk.__module__, "floorpowers.desk")
        one, other = Desk(), Desk()
        told(one, HOUSE)
        self.assertIsNone(other.house)
        self.assertFalse(one == other)


if __name__ == "__main__":
    unittest.main()

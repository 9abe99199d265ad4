"""floorpowers/leading.py: lots led to force and to bar, whatever the others do."""

import inspect
import operator
import unittest

from floorpowers.errors import (BadAct, BadGoal, BadHouse, BadLot, BadName, BadNumber, BadPaper, BadStand, NothingBack,
                                TooGreat)
from floorpowers.leading import Led
from floorpowers.live import Sitting
from helpers import OtherInt, OtherStr, OtherTuple, are_plain, check_refused, strange_values
from models import all_goals, choice, force_numbers, is_question, side, vote_ends
from sittings import (BEYOND_EDGE, EDGE_HOUSE, FULL, GREAT, HALF, LEAST_HALF, NOBODY, SMALL, acts, after, book, drawn,
                      first_stand, lots, may)
from test_webs import odd_stand

HOUSE = ((2, 1, 1), 1, FULL, (1, 2, 0), 2)
BEGIN = first_stand(HOUSE)
PASS = ("pass",)
SOME = ["one member", "two members", "each can bring it up", "nobody carries", "no limit", "no limit, lay and take",
        "end below", "equal ranks", "one who never has the turn", "three members"]


def others(house, lot):
    """The others of a lot."""
    return tuple(one for one in range(len(house[0])) if one not in lot)


def own_act(house, stand, lot, numbers, word):
    """The act of a member of the lot, by the words; numbers are the ranks of who forces."""
    if word == "force":
        return choice(house, stand, lot, numbers)
    return [act for act in acts(house, stand) if after(house, stand, act) not in numbers][0]


def own_yes(house, stand, lot, numbers, word):
    """Whether all of the lot say yes, by the words."""
    if word == "force":
        return choice(house, stand, lot, numbers) is True
    can = side(house, stand[3][-1], lot)
    return can == "up" or (can == "decides" and vote_ends(house, stand)[1] in numbers)


def numbers_of(house, stand, lot, goal, word):
    """The ranks of who forces: the lot, or its others against a lot that bars."""
    return force_numbers(house, stand, lot if word == "force" else others(house, lot), goal)


def due_at(house, stand, lot):
    """What is due at a stand."""
    if stand[0] == "over":
        return "over"
    if is_question(house, stand):
        return "question"
    return "own" if stand[5] in lot else "others"


def cases(every=1):
    """Houses, stands, lots, goals and words such that the lot can be led."""
    told = []
    for name in SOME:
        house = SMALL[name]
        for stand in (first_stand(house), odd_stand(house), first_stand(house, (0,), len(house[0]) - 1)):
            for lot in lots(len(house[0])):
                for goal in all_goals(house)[:5]:
                    for word in ("force", "bar"):
                        numbers = numbers_of(house, stand, lot, goal, word)
                        if (stand in numbers) == (word == "force"):
                            told.append((house, stand, lot, goal, word))
    return told[::every]


class LedTest(unittest.TestCase):

    def step(self, led, case, stand, drawing):
        """One act, the lot's own one or a drawn one of the others, checked by the words; the stand behind it."""
        house, first, lot, goal, word = case
        numbers = numbers_of(house, first, lot, goal, word)
        due = due_at(house, stand, lot)
        self.assertEqual((led.due(), led.stand), (due, stand))
        self.assertEqual(led.acts_left(), numbers[stand] if word == "force" else None)
        self.check_not_due(led, case, stand, due)
        if due == "own":
            act = own_act(house, stand, lot, numbers, word)
            self.assertEqual(led.go(), act)
        elif due == "others":
            act = acts(house, stand)[drawing % len(acts(house, stand))]
            self.assertEqual(led.hear(act), act)
        else:
            yes = tuple(one for one in others(house, lot) if drawing >> one & 1)
            mine = lot if own_yes(house, stand, lot, numbers, word) else ()
            act = ("vote", tuple(sorted(yes + mine)))
            self.assertEqual(led.vote(yes), act)
        self.assertTrue(may(house, stand, act))
        return act, after(house, stand, act)

    def check_not_due(self, led, case, stand, due):
        """Whatever isn't due is refused and changes nothing."""
        house, lot = case[0], case[2]
        if due != "own":
            check_refused(self, BadAct, {"place": None}, led.go)
        if due != "others":
            check_refused(self, BadAct, {"place": None}, led.hear, PASS)
        else:
            check_refused(self, BadAct, {"place": "order"}, led.hear, ("vote", ()))
            check_refused(self, BadAct, {"place": None}, led.hear, ("vote", (7,)))
        if due != "question":
            check_refused(self, BadAct, {"place": None}, led.vote, ())
        for number, member in enumerate(lot[:1]):
            check_refused(self, BadLot, {"number": number}, led.vote, (member,))
        self.assertEqual(led.stand, stand)

    def test_whatever_the_others_do(self):
        found = {}
        for number, case in enumerate(cases(3)):
            house, first, lot, goal, word = case
            state = number
            for _ in range(2):
                led, stand, row = Led(*case), first, ()
                rank = led.acts_left()
                while stand[0] != "over" and len(row) < 40:
                    drawing, state = drawn(state, 1024)
                    act, stand = self.step(led, case, stand, drawing)
                    row += (act,)
                self.assertEqual(len(led), len(row))
                twin = led.twin()
                self.assertEqual((twin.row, twin.stand), (row, stand))
                if word == "force":
                    self.assertTrue(stand[0] == "over" and stand[1] in goal and len(row) <= rank)
                else:
                    self.assertFalse(stand[0] == "over" and stand[1] in goal)
                sides = {side(house, kind_motion, lot) for kind_motion in [("put", (0,))]}
                found[word, sides.pop(), len(row) > 4] = True
        self.assertTrue({(word, can, True) for word in ("force", "bar") for can in ("decides", "others", "down", "up")
                         } - {("force", "others", True)} <= set(found), found)

    def test_each_choice_of_the_others(self):
        for case in [each for each in cases(1) if each[0] == SMALL["each can bring it up"]][::9]:
            self.go_through(Led(*case), case, case[1], 7)

    def go_through(self, led, case, stand, most):
        """All that the others can do for some acts, each done and taken back."""
        house, _, lot, _, word = case
        if most == 0 or stand[0] == "over":
            return
        due = due_at(house, stand, lot)
        many = {"own": 1, "others": len(acts(house, stand)), "question": 2 ** len(house[0])}[due]
        for drawing in range(many):
            length = len(led)
            _, behind = self.step(led, case, stand, drawing)
            self.go_through(led, case, behind, most - 1)
            self.assertIs(led.undo(), None)
            self.assertEqual((len(led), led.stand), (length, stand))

    def test_votes_of_all_sides_by_who_bars(self):
        found = set()
        share_of = {"decides": HALF, "up": (1, 9, True), "down": NOBODY}
        for word, share in share_of.items():
            house = ((3, 1), 1, book(put=(1, share), end=(3, LEAST_HALF)), (1, 0), 1)
            for lot in ((0,), (1,)):
                for clause in ((), (0,)):
                    stand = ("floor", (), None, (("put", clause),), False, 0, 2, 0)
                    for goal in (((),), ((0,),)):
                        numbers = numbers_of(house, stand, lot, goal, "bar")
                        if stand not in numbers:
                            led = Led(house, stand, lot, goal, "bar")
                            mine = lot if own_yes(house, stand, lot, numbers, "bar") else ()
                            self.assertEqual(led.vote(()), ("vote", mine))
                            found.add((side(house, ("put", (0,)), lot), mine != ()))
        self.assertTrue({("decides", True), ("decides", False), ("others", False), ("up", True), ("down", False)}
                        <= found)

    def test_told_out(self):
        led = Led(HOUSE, BEGIN, (0, 1), ((0,),), "force")
        left = led.acts_left()
        self.assertEqual((left, led.due(), len(led)), (13, "own", 0))
        self.assertEqual(led.go(), ("move", ("end",)))
        self.assertEqual(led.acts_left(), 12)
        self.assertTrue(are_plain(led.stand))
        led = Led(OtherTuple(HOUSE), OtherTuple(BEGIN), OtherTuple((OtherInt(0), OtherInt(1))), ((0,),),
                  OtherStr("bar"))
        self.assertIs(led.acts_left(), None)
        self.assertTrue(are_plain((led.go(), led.stand)))
        over = Led(HOUSE, ("over", (0,)), (), ((0,),), "force")
        self.assertEqual((over.due(), over.acts_left(), len(over)), ("over", 0, 0))
        self.assertEqual(Led(HOUSE, ("over", ()), (), ((0,),), "bar").due(), "over")


class CopiesTest(unittest.TestCase):

    def start(self):
        led = Led(HOUSE, BEGIN, (0, 2), ((),), "force")
        led.go()
        led.hear(PASS)
        return led

    def test_go_on_by_themselves(self):
        led = self.start()
        other, twin = led.copy(), led.twin()
        self.assertIs(type(other), Led)
        self.assertIs(type(twin), Sitting)
        self.assertEqual((other.stand, len(other), other.due(), other.acts_left()),
                         (led.stand, 2, led.due(), led.acts_left()))
        before = led.stand
        other.go()
        twin.undo(many=2)
        self.assertEqual((led.stand, len(led), len(other), len(twin)), (before, 2, 3, 0))
        led.undo(many=2)
        self.assertEqual((led.stand, len(other), twin.stand, len(led)), (BEGIN, 3, BEGIN, 0))
        other.undo(many=3)
        self.assertEqual(other.go(), led.go())
        check_refused(self, NothingBack, {}, other.undo, many=2)

    def test_undo(self):
        led = self.start()
        for many in (3, 10 ** 30):
            check_refused(self, NothingBack, {}, led.undo, many=many)
        for many in strange_values()[:-1] + [0, -1, "1"]:
            check_refused(self, BadNumber, {"value": many}, led.undo, many=many)
        self.assertEqual(len(led), 2)
        led.undo()
        self.assertEqual((len(led), led.due()), (1, "others"))
        with self.assertRaises(TypeError):
            led.undo(1)

    def test_from_where_it_was_led(self):
        sitting = Sitting(HOUSE, BEGIN)
        sitting.do(PASS)
        led = Led(HOUSE, sitting.stand, (1, 2), ((),), "force")
        self.assertEqual((len(led), led.twin().row), (0, ()))
        check_refused(self, NothingBack, {}, led.undo)

    def test_other_values(self):
        led = self.start()
        for value in (None, 0, led.copy(), led.twin(), "force", ()):
            self.assertFalse(led == value)
            self.assertTrue(led != value)
        for sign in (operator.lt, operator.add, operator.mul, operator.or_):
            with self.assertRaises(TypeError):
                sign(led, led.copy())

    def test_two_hundred_acts(self):
        house = ((1, 1), 1, book(put=(1, HALF), end=(4, HALF)), (1, 0), None)
        led = Led(house, first_stand(house), (), (), "bar")
        block = [("hear", ("move", ("put", (0,)))), ("hear", PASS), ("hear", PASS), ("vote", ())]
        for number in range(200):
            name, value = block[number % 4]
            (led.hear if name == "hear" else led.vote)(value)
        check_refused(self, TooGreat, {"most": 200}, led.hear, PASS)
        check_refused(self, BadAct, {"place": "order"}, led.hear, ("vote", ()))
        check_refused(self, BadAct, {"place": None}, led.hear, None)
        led.undo()
        check_refused(self, BadAct, {"place": None}, led.hear, PASS)
        led.vote((0,))
        self.assertEqual(len(led), 200)
        own = Led(house, first_stand(house), (0, 1), (), "bar")
        for _ in range(200):
            if own.due() == "own":
                own.go()
            else:
                own.vote(())
        self.assertEqual(own.due() in ("own", "question"), True)
        if own.due() == "own":
            check_refused(self, TooGreat, {"most": 200}, own.go)
        else:
            check_refused(self, TooGreat, {"most": 200}, own.vote, ())


class RefusalsTest(unittest.TestCase):

    def test_in_turn(self):
        case = [HOUSE, BEGIN, (0, 1), ((0,),), "force"]
        wrong = [(BadHouse, "place", None), (BadStand, "place", None), (BadLot, "number", None),
                 (BadGoal, "number", None), (BadName, "name", None)]
        names = ["house", "stand", "lot", "goal", "word"]
        for at, (kind, field, value) in enumerate(wrong):
            told = case[:at] + [None] * (5 - at)
            check_refused(self, kind, {field: value}, Led, *told)
            check_refused(self, kind, {field: value}, Led, **dict(reversed(list(zip(names, told)))))
        for word in strange_values() + ["Force", "forces", "barred", "", ("bar",)]:
            check_refused(self, BadName, {"name": word}, Led, HOUSE, BEGIN, (0, 1), ((0,),), word)
            check_refused(self, BadName, {"name": word}, Led, GREAT, first_stand(GREAT), (0, 1), ((0,),), word)
        for word in ("force", "bar"):
            check_refused(self, TooGreat, {"most": 3000}, Led, GREAT, first_stand(GREAT), (), (), word)
            check_refused(self, TooGreat, {"most": 3000}, Led, EDGE_HOUSE, BEYOND_EDGE, (), (), word)
        check_refused(self, BadLot, {"number": 1}, Led, HOUSE, BEGIN, (0, 3), (), "bar")
        check_refused(self, BadGoal, {"number": 0}, Led, HOUSE, BEGIN, (0,), ((1,),), "bar")

    def test_lots_that_cannot(self):
        seen = set()
        for name in SOME[:6]:
            house = SMALL[name]
            stand = first_stand(house)
            for lot in lots(len(house[0])):
                for goal in all_goals(house):
                    for word in ("force", "bar"):
                        can = (stand in numbers_of(house, stand, lot, goal, word)) == (word == "force")
                        if can:
                            self.assertEqual(Led(house, stand, lot, goal, word).stand, stand)
                        else:
                            check_refused(self, BadPaper, {"word": word}, Led, house, stand, lot, goal, word)
                        seen.add((word, can))
        self.assertEqual(len(seen), 4)

    def test_votes(self):
        house = ((1, 1, 1), 1, book(put=(1, HALF)), (1, 2, 0), 1)
        put = ("floor", (), None, (("put", (0,)),), False, 0, 3, 0)
        led = Led(house, put, (1,), (), "bar")
        for value in strange_values() + [0, [0]]:
            check_refused(self, BadLot, {"number": None}, led.vote, value)
        for yes, number in (((3,), 0), ((0, 0), 1), ((2, 0), 1), ((True,), 0), ((1,), 0), ((0, 1), 1), ((0, 1, 2), 1),
                            ((1, 3), 1), ((1, 1), 1)):
            check_refused(self, BadLot, {"number": number}, led.vote, yes)
            check_refused(self, BadLot, {"number": number}, led.vote, yes=yes)
        self.assertEqual(led.vote((0, 2)), ("vote", (0, 2)))
        check_refused(self, BadLot, {"number": 0}, led.vote, (1,))
        check_refused(self, BadAct, {"place": None}, led.vote, (0,))

    def test_methods_in_the_class_itself(self):
        for name in ("twin", "due", "go", "hear", "vote", "acts_left", "undo", "copy", "__len__", "__init__"):
            self.assertTrue(inspect.isfunction(vars(Led)[name]), name)
        self.assertIsInstance(vars(Led)["stand"], property)
        self.assertEqual(Led.__module__, "floorpowers.leading")


if __name__ == "__main__":
    unittest.main()

"""floorpowers/stands.py: stands of both forms, with one thing otherwise at each place, and what is asked of them."""

import unittest
from itertools import product

from floorpowers.errors import BadHouse, BadMember, BadStand, BadText
from floorpowers.stands import beginning, is_over, is_put, is_stand, need_stand, pending
from helpers import check_refused, strange_values
from sittings import FULL, HALF, PARTS, SMALL, book, first_stand, graph, lots, motions, parts, rank, stand_of

HOUSE = ((3, 2, 1), 2, FULL, (1, 2, 0), 4)
NO_LIMIT = HOUSE[:4] + (None,)
TINY = ((1, 2), 1, book(put=(1, HALF), amend=(3, HALF), lay=(2, HALF), take=(4, HALF), close=(5, HALF), end=(1, HALF)),
        (1, 0), 1)
STAND = ("floor", (0,), (1,), (("put", (0, 1)), ("amend", 1), ("lay",)), False, 2, 1, 3)
FUNCTIONS = (need_stand, pending, is_put, is_over)


def with_part(stand, part, value):
    """A stand on the floor with another thing at a place."""
    told = parts(stand)
    told[part] = value
    return stand_of(told)


def is_number(value, most):
    """Whether a value is an integer from 0 to most."""
    return type(value) is int and 0 <= value <= most


def model_pile(house, told):
    """Whether a pile is as told, said anew: pairs of neighbours, and what each kind asks."""
    pile = told["pile"]
    known = motions(house) + [("put", ())]
    if type(pile) is not tuple or any(motion not in known or type(motion) is not tuple for motion in pile):
        return False
    kinds = [motion[0] for motion in pile]
    asked = {"put": lambda at: at == 0, "take": lambda at: at == 0 and told["table"] is not None,
             "amend": lambda at: at > 0 and kinds[0] == "put", "lay": lambda at: at > 0 and kinds[0] == "put",
             "close": lambda at: at > 0 and told["closed"] is not True, "end": lambda at: True}
    rising = all(rank(house, pile[at]) < rank(house, pile[at + 1]) for at in range(len(pile) - 1))
    return rising and all(asked[kind](at) for at, kind in enumerate(kinds))


def model_fault(house, stand):
    """The first part of what has the form of a stand on the floor that isn't as told, or "" if there is none."""
    told, many, texts = parts(stand), len(house[0]), lots(house[1])
    left = told["left"] is None if house[4] is None else is_number(told["left"], house[4])
    holds = [("text", told["text"] in texts), ("table", told["table"] is None or told["table"] in texts),
             ("pile", model_pile(house, told)),
             ("closed", told["closed"] is False or (told["closed"] is True and told["pile"] != ())),
             ("turn", is_number(told["turn"], many - 1)),
             ("passes", is_number(told["passes"], many if told["pile"] else many - 1)), ("left", left)]
    return ([part for part, does_hold in holds if not does_hold] + [""])[0]


class StandsTest(unittest.TestCase):

    def check_right(self, house, stand):
        self.assertIs(is_stand(house, stand), True, stand)
        self.assertIs(need_stand(house, stand), stand)

    def check_wrong(self, house, stand, place):
        self.assertIs(is_stand(house, stand), False, stand)
        for function in FUNCTIONS:
            check_refused(self, BadStand, {"place": place}, function, house, stand)

    def test_right_ones_of_both_forms(self):
        for text in lots(2):
            self.check_right(HOUSE, ("over", text))
            self.check_right(HOUSE, with_part(STAND, "text", text))
            for table in (None, text):
                self.check_right(NO_LIMIT, ("floor", text, table, (), False, 0, 2, None))
        self.check_right(HOUSE, STAND)
        for pile in ((), (("put", ()),), (("end",),), (("take",),), (("take",), ("close",), ("end",)),
                     (("put", (0, 1)), ("amend", 0), ("lay",), ("close",), ("end",)), (("put", (1,)), ("end",))):
            self.check_right(HOUSE, ("floor", (), (0,), pile, False, 0, 0, 0))
        for turn, left in product(range(3), range(5)):
            self.check_right(HOUSE, ("floor", (), None, (("end",),), True, turn, 3, left))

    def test_all_that_can_be_reached_are_stands(self):
        for house in SMALL.values():
            for stand in graph(house, first_stand(house)):
                self.check_right(house, stand)

    def test_what_has_no_form(self):
        values = strange_values() + [(), ("over",), ("floor",), ("over", (), ()), STAND[:7], STAND + (0,), list(STAND),
                                     ["over", ()], ("Over", ()), ("floor", ()), ("over",) + STAND[1:], ((), "over"),
                                     ("pass",), 0, STAND[1:], ("stand",) + STAND[1:]]
        values += [(value, ()) for value in strange_values()] + [(value,) + STAND[1:] for value in strange_values()]
        for value in values:
            self.check_wrong(HOUSE, value, None)

    def test_one_thing_otherwise_at_each_place(self):
        strange = strange_values()
        no_texts = [(2,), (-1,), (0, 0), (1, 0), (True,), [0], "0", 0, ((0,),), (0, 1, 2), ("0",), (0, None)]
        no_numbers = strange + [-1, (0,), "1"]
        wrong = {"text": strange + no_texts, "table": [value for value in strange if value is not None] + no_texts,
                 "pile": strange + [[("put", (0,))], ("put", (0,)), "put", 0, (("put",),), ((),), ("end",), (0,)],
                 "closed": [value for value in strange if value is not True and value is not False] + [0, 1],
                 "turn": no_numbers + [3], "passes": no_numbers + [4], "left": no_numbers + [5]}
        for part, values in wrong.items():
            for value in values:
                stand = with_part(STAND, part, value)
                self.check_wrong(HOUSE, stand, part)
                for later in PARTS[PARTS.index(part) + 1:]:
                    self.check_wrong(HOUSE, with_part(stand, later, (["x"],)), part)
        for text in strange + no_texts:
            self.check_wrong(HOUSE, ("over", text), "text")

    def test_the_limit_and_what_is_left(self):
        for house in (HOUSE[:4] + (limit,) for limit in [None] + list(range(10))):
            for left in [None, -1, True, False, "0", (0,)] + list(range(11)):
                stand = ("floor", (), None, (), False, 0, 0, left)
                if left is None and house[4] is None or house[4] is not None and is_number(left, house[4]):
                    self.check_right(house, stand)
                else:
                    self.check_wrong(house, stand, "left")

    def test_passes(self):
        for passes in range(5):
            for pile in ((), (("end",),)):
                stand = ("floor", (), None, pile, False, 0, passes, 4)
                if passes < 3 or passes == 3 and pile:
                    self.check_right(HOUSE, stand)
                else:
                    self.check_wrong(HOUSE, stand, "passes")

    def test_one_thing_otherwise_in_a_motion_of_the_pile(self):
        for at, motion in enumerate(STAND[3]):
            wrong = strange_values() + [(), motion + (0,), list(motion), ("Put", (0,)), ("pass",), ("vote", ()),
                                        ("move", motion), motion[0], (motion,), ("lay", 0), ("end", ()), ("put",)]
            wrong += [("put", value) for value in strange_values() + [(2,), (0, 0), (True,), [0], 0]]
            wrong += [("amend", value) for value in strange_values() + [2, -1, (0,)]] + [("amend",)]
            for value in wrong:
                pile = STAND[3][:at] + (value,) + STAND[3][at + 1:]
                self.check_wrong(HOUSE, with_part(STAND, "pile", pile), "pile")

    def test_kinds_that_the_book_lacks(self):
        house = HOUSE[:2] + (book(put=(1, HALF), end=(4, HALF)),) + HOUSE[3:]
        for pile in ((("put", ()), ("amend", 0)), (("put", ()), ("lay",)), (("take",),), (("end",), ("close",))):
            self.check_wrong(house, ("floor", (), (0,), pile, False, 0, 0, 4), "pile")

    def test_piles_in_another_turn(self):
        for pile in ((("amend", 0), ("put", (0,))), (("put", ()), ("put", (0,))), (("lay",), ("put", ())),
                     (("close",),),
                     (("amend", 0),), (("lay",),), (("end",), ("put", ())), (("end",), ("take",)),
                     (("end",), ("amend", 0)),
                     (("take",), ("put", ())), (("take",), ("amend", 0)), (("take",), ("lay",)), (("end",), ("end",)),
                     (("put", ()), ("take",)), (("put", ()), ("lay",), ("amend", 0)),
                     (("put", ()), ("amend", 0), ("amend", 1)),
                     (("put", ()), ("close",), ("lay",)), (("put", ()), ("end",), ("close",)), (("close",), ("end",))):
            self.check_wrong(HOUSE, ("floor", (), (0,), pile, False, 0, 0, 4), "pile")
            self.check_wrong(HOUSE, ("floor", (), (0,), pile, 0, -1, -1, None), "pile")

    def test_take_needs_a_table_and_close_an_open_floor(self):
        self.check_right(HOUSE, ("floor", (), (), (("take",),), True, 0, 0, 4))
        self.check_wrong(HOUSE, ("floor", (), None, (("take",),), True, 0, 0, 4), "pile")
        pile = (("put", ()), ("close",))
        self.check_right(HOUSE, ("floor", (), None, pile, False, 0, 0, 4))
        self.check_wrong(HOUSE, ("floor", (), None, pile, True, 0, 0, 4), "pile")
        self.check_wrong(HOUSE, ("floor", (), None, pile, 1, 0, 0, 4), "closed")
        self.check_right(HOUSE, ("floor", (), None, pile[:1] + (("lay",),), True, 0, 0, 4))
        self.check_wrong(HOUSE, ("floor", (), None, (), True, 0, 0, 4), "closed")
        self.check_wrong(HOUSE, ("floor", (), None, (), True, 3, 3, 5), "closed")

    def test_equal_ranks_may_not_lie_on_one_another(self):
        house = SMALL["equal ranks"]
        self.check_wrong(house, ("floor", (), None, (("put", ()), ("amend", 0)), False, 0, 0, 2), "pile")
        self.check_wrong(house, ("floor", (), None, (("put", ()), ("end",)), False, 0, 0, 2), "pile")
        self.check_right(house, ("floor", (), None, (("put", ()), ("lay",)), False, 0, 0, 2))

    def test_all_choices_of_parts_in_a_tiny_house(self):
        known = motions(TINY) + [("put", ())]
        piles = [()] + [pile for size in (1, 2) for pile in product(known, repeat=size)]
        piles += [(("put", ()),) + pile for pile in product(known, repeat=2)]
        piles += [(("end",), ("close",), known[0]), (("put", ()), ("lay",), ("amend", 0), ("close",)), [], ("end",)]
        for text, table, pile, closed in product([(), (0,), (1,)], [None, (), (0,), (1,), 0], piles, [True, False, 0]):
            stand = ("floor", text, table, pile, closed, 0, 0, 1)
            for last in [(0, 0, 1), (1, 2, 0), (2, 2, 0), (1, 3, 1), (0, 1, 2), (0, 2, None), (True, 0, 0),
                         (0, True, 0),
                         (1, 1, False)]:
                stand = stand[:5] + last
                fault = model_fault(TINY, stand)
                self.assertIs(is_stand(TINY, stand), fault == "", stand)
                if fault:
                    check_refused(self, BadStand, {"place": fault}, need_stand, TINY, stand)

    def test_the_house_comes_first(self):
        for function in FUNCTIONS + (is_stand,):
            check_refused(self, BadHouse, {"place": "limit"}, function, HOUSE[:4] + (10,), None)
            check_refused(self, BadHouse, {"place": None}, function, None, STAND)
        check_refused(self, BadHouse, {"place": "book"}, beginning, HOUSE[:2] + ((),) + HOUSE[3:], None, None)


class QuestionsTest(unittest.TestCase):

    def test_beginnings(self):
        self.assertEqual(beginning(HOUSE, (0, 1), 2), ("floor", (0, 1), None, (), False, 2, 0, 4))
        self.assertEqual(beginning(NO_LIMIT, (), 0), ("floor", (), None, (), False, 0, 0, None))
        for house in SMALL.values():
            for text, member in product(lots(house[1]), range(len(house[0]))):
                stand = beginning(house, text, member)
                self.assertEqual(stand, first_stand(house, text, member))
                self.assertIs(is_stand(house, stand), True)

    def test_what_beginnings_refuse(self):
        for text, number in (((2,), 0), ([], None), (None, None), ((0, 0), 1), ((0, True), 1)):
            check_refused(self, BadText, {"number": number}, beginning, HOUSE, text, None)
        for member in (3, -1, True, False, None, "0", (0,)):
            check_refused(self, BadMember, {"value": member}, beginning, HOUSE, (0,), member)

    def test_pending_put_and_over(self):
        for house in SMALL.values():
            for stand in graph(house, first_stand(house)):
                over = stand[0] == "over"
                self.assertIs(is_over(house, stand), over)
                self.assertEqual(pending(house, stand), () if over else stand[3])
                self.assertIs(is_put(house, stand), not over and stand[6] == len(house[0]))


if __name__ == "__main__":
    unittest.main()

"""floorpowers/ways.py: texts that come, without kinds too, keeping acts, narrows and chains, and papers on them."""

import unittest
from itertools import combinations

from floorpowers.errors import BadHouse, BadMotion, BadPaper, BadStand, BadText, TooGreat
from floorpowers.ways import (check_narrow, check_text, is_narrow, keeping_acts, narrow_paper, narrows, row_to_text,
                              text_paper, texts_from)
from floorpowers.webs import web_of
from helpers import check_refused, strange_values
from sittings import (BEYOND_EDGE, EDGE_HOUSE, GREAT, KINDS, ON_EDGE, SMALL, all_rows, first_stand, graph, least_rows,
                      lots)
from test_acts import BARE
from test_stands import HOUSE, STAND
from test_webs import ROW_HOUSES, odd_stand, starts

SOME_KINDS = [()] + [(kind,) for kind in KINDS]
SOME_KINDS += [("put", "take"), ("lay", "end"), ("put", "amend", "close"), KINDS[1:], KINDS]
END_HOUSE = SMALL["no limit"]
END_ROW = (("move", ("end",)), ("pass",), ("vote", (0,)))


def let_without(kinds):
    """Whether a step moves no motion of these kinds."""
    return lambda act, _: not (act[0] == "move" and act[1][0] in kinds)


def comes_round(arrows, stand, goal, shut):
    """Whether some row comes to goal without a stand on its way."""
    found, left = set(), [] if stand == shut else [stand]
    while left:
        here = left.pop()
        if here not in found:
            found.add(here)
            left += [there for there in arrows[here].values() if there != shut]
    return goal in found


def wrong_kinds():
    """What are no kinds, with the places that are told."""
    pairs = [(value, None) for value in strange_values() + [["put"], 0] if not isinstance(value, tuple)]
    pairs += [((value,), 0) for value in strange_values() + ["Put", "pass", "move", "vote", "over", ("put",), 0]]
    pairs += [(("put", value), 1) for value in strange_values() + ["put", "Lay", 0, ("lay",)]]
    pairs += [((KINDS[at], KINDS[far]), 1) for at in range(6) for far in range(at + 1)]
    return pairs + [(("put", "lay", "amend"), 2), (("amend", "put", None), 1), (("put", "lay", "lay", "end"), 2),
                    (KINDS + ("put",), 6)]


class TextsTest(unittest.TestCase):

    def test_told_out(self):
        begin = first_stand(END_HOUSE)
        self.assertEqual(texts_from(END_HOUSE, begin, ()), ((), (0,)))
        self.assertEqual(texts_from(END_HOUSE, begin, ("put",)), ((),))
        self.assertEqual(texts_from(END_HOUSE, begin, ("amend", "end")), ((), (0,)))
        self.assertEqual(texts_from(END_HOUSE, ("over", (0,)), KINDS), ((0,),))
        pending = begin[:3] + ((("put", (0,)),),) + begin[4:]
        self.assertEqual(texts_from(END_HOUSE, pending, KINDS), ((), (0,)))
        self.assertEqual(row_to_text(END_HOUSE, begin, (0,), ("put",)), None)
        self.assertEqual(row_to_text(END_HOUSE, pending, (0,), KINDS), (("pass",), ("vote", (0,)), ("pass",)))

    def test_against_rows_worked_out_apart(self):
        for house in SMALL.values():
            for stand in starts(house)[::2] + [odd_stand(house)]:
                arrows = graph(house, stand)
                for kinds in SOME_KINDS:
                    rows = least_rows(arrows, stand, let_without(kinds))
                    texts = sorted(end[1] for end in rows if end[0] == "over")
                    self.assertEqual(texts_from(house, stand, kinds), tuple(texts))
                    for text in lots(house[1]):
                        row = rows.get(("over", text))
                        self.assertEqual(row_to_text(house, stand, text, kinds), row)
                        paper = text_paper(house, stand, text, kinds)
                        self.assertEqual(paper[0], "closed" if row is None else "row")
                        self.assertIs(check_text(house, stand, text, kinds, paper), row is not None)

    def test_without_all_six_the_text_stands(self):
        for house in SMALL.values():
            for stand in graph(house, first_stand(house)):
                if stand[0] == "floor":
                    self.assertIn(stand[1], texts_from(house, stand, KINDS))

    def test_all_choices_of_kinds(self):
        house = SMALL["two members"]
        stand = first_stand(house)
        arrows = graph(house, stand)
        for kinds in [kinds for size in range(7) for kinds in combinations(KINDS, size)]:
            rows = least_rows(arrows, stand, let_without(kinds))
            self.assertEqual(texts_from(house, stand, kinds), tuple(sorted(end[1] for end in rows if end[0] == "over")))


class KeepingTest(unittest.TestCase):

    def test_against_webs_from_the_stands_behind(self):
        for name in ("two members", "no limit, lay and take", "nobody carries", "equal ranks"):
            house = SMALL[name]
            arrows = graph(house, first_stand(house))
            comes = {stand: {end[1] for end in graph(house, stand) if end[0] == "over"} for stand in arrows}
            for stand in list(arrows)[::3]:
                for text in lots(house[1]):
                    told = [act for act, behind in arrows[stand].items() if text in comes[behind]]
                    self.assertEqual(keeping_acts(house, stand, text), tuple(sorted(told)))

    def test_told_out(self):
        self.assertEqual(keeping_acts(END_HOUSE, ("over", ()), ()), ())
        stand = ("floor", (), None, (("end",),), False, 0, 1, None)
        self.assertEqual(keeping_acts(END_HOUSE, stand, (0,)), (("vote", ()),))
        self.assertEqual(keeping_acts(END_HOUSE, stand, ()), (("vote", ()), ("vote", (0,))))
        last = ("floor", (), None, (), False, 0, 0, 0)
        self.assertEqual(keeping_acts(SMALL["one member"], last, (0,)), ())
        self.assertEqual(keeping_acts(SMALL["one member"], last, ()), (("pass",),))


class NarrowsTest(unittest.TestCase):

    def test_told_out(self):
        begin = first_stand(END_HOUSE)
        self.assertEqual(narrows(END_HOUSE, begin, ()), (begin, ("over", ())))
        self.assertEqual(narrows(END_HOUSE, ("over", (0,)), (0,)), (("over", (0,)),))
        self.assertEqual(narrows(END_HOUSE, ("over", (0,)), ()), ())
        pending = begin[:3] + ((("put", (0,)),),) + begin[4:]
        asked = pending[:6] + (1, None)
        house = SMALL["one member"]
        pending, asked = [stand[:7] + (0,) for stand in (pending, asked)]
        put = ("floor", (0,), None, (), False, 0, 0, 0)
        self.assertEqual(narrows(house, pending, (0,)), (pending, asked, put, ("over", (0,))))
        self.assertEqual(narrow_paper(house, pending, (0,), pending), ("shut", ()))

    def test_against_webs_without_a_stand(self):
        for house in SMALL.values():
            for stand in starts(house)[::2]:
                arrows = graph(house, stand)
                web = web_of(house, stand)
                for text in lots(house[1]):
                    goal = ("over", text)
                    told = [each for each in web if goal in arrows and not comes_round(arrows, stand, goal, each)]
                    chain = narrows(house, stand, text)
                    self.assertEqual((sorted(chain, key=repr), len(set(chain))), (sorted(told, key=repr), len(chain)))

    def test_one_by_one_with_papers(self):
        for house in list(SMALL.values())[::2]:
            for stand in starts(house)[::3]:
                arrows = graph(house, stand)
                for text in lots(house[1]):
                    if ("over", text) not in arrows:
                        continue
                    chain = narrows(house, stand, text)
                    for goal in chain + tuple(arrows)[::9] + tuple(starts(house)) + (odd_stand(house), ("over", text)):
                        self.assertIs(is_narrow(house, stand, text, goal), goal in chain)
                        paper = narrow_paper(house, stand, text, goal)
                        self.assertEqual(paper[0], "shut" if goal in chain else "round")
                        self.assertIs(check_narrow(house, stand, text, goal, paper), goal in chain)

    def test_the_turn_of_the_chain_on_all_rows_of_few_acts(self):
        for name, most in ROW_HOUSES.items():
            house = SMALL[name]
            for stand in starts(house)[:6]:
                arrows = graph(house, stand)
                chains = {text: narrows(house, stand, text) for text in lots(house[1])}
                for row, way in all_rows(arrows, stand, most):
                    if way[-1][0] == "over":
                        chain = chains[way[-1][1]]
                        self.assertEqual(sorted(chain, key=way.index), list(chain))

    def test_chains_of_several_stands(self):
        """Where little may still be moved, rows to another text have more than both ends in common."""
        found = {}
        for house in SMALL.values():
            for stand in list(graph(house, first_stand(house)))[::4]:
                for text in texts_from(house, stand, ()):
                    found[len(narrows(house, stand, text))] = True
        self.assertTrue({1, 2, 3, 4, 5, 6} <= set(found))


class TextPapersTest(unittest.TestCase):

    def check_fails(self, word, stand, text, kinds, paper, house=SMALL["two members"]):
        check_refused(self, BadPaper, {"word": word}, check_text, house, stand, text, kinds, paper)

    def test_rows(self):
        house = SMALL["two members"]
        stand = first_stand(house)
        row = row_to_text(house, stand, (0,), ())
        self.assertEqual(row[0], ("move", ("put", (0,))))
        for kinds in ((), ("amend",), KINDS[1:]):
            self.assertIs(check_text(house, stand, (0,), kinds, ("row", row)), True)
            for at in range(len(row)):
                self.check_fails("row", stand, (0,), kinds, ("row", row[:at]))
                for act in (None, ("vote", ()), ("move", ("put", (False,))), ["pass"]):
                    if act != row[at]:
                        self.check_fails("row", stand, (0,), kinds, ("row", row[:at] + (act,) + row[at + 1:]))
        for kinds in (("put",), ("put", "end"), KINDS):
            self.check_fails("row", stand, (0,), kinds, ("row", row))
        self.check_fails("row", stand, (), (), ("row", row))
        self.check_fails("row", stand, (0,), (), ("row", row + (("pass",),)))
        longer = (("pass",), ("move", ("end",)), ("pass",), ("pass",), ("vote", (0, 1)))
        self.assertIs(check_text(house, stand, (), ("put",), ("row", longer)), True)
        self.check_fails("row", stand, (), ("end",), ("row", longer))

    def test_closed_ones(self):
        house = SMALL["two members"]
        stand = first_stand(house)
        kinds = ("put",)
        told = text_paper(house, stand, (0,), kinds)[1]
        self.assertIs(check_text(house, stand, (0,), kinds, ("closed", told[::-1])), False)
        for at in range(len(told)):
            self.check_fails("closed", stand, (0,), kinds, ("closed", told[:at] + told[at + 1:]))
            self.check_fails("closed", stand, (0,), kinds, ("closed", told + (told[at],)))
            for value in strange_values() + [list(told[at]), ("over", (0,)), ("over", (1,))]:
                self.check_fails("closed", stand, (0,), kinds, ("closed", told[:at] + (value,) + told[at + 1:]))
        more = tuple(("floor", (), (0,), (), False, passes, passes, 0) for passes in (0, 1))
        self.assertIs(check_text(house, stand, (0,), kinds, ("closed", told + more)), False)
        self.check_fails("closed", stand, (0,), kinds, ("closed", told + (("over", (0,)),)))
        self.check_fails("closed", stand, (), kinds, ("closed", told))
        self.check_fails("closed", stand, (0,), (), ("closed", told))
        self.check_fails("closed", stand, (0,), ("take",), ("closed", told))
        self.check_fails("closed", stand, (0,), ("put",), ("closed", ()))
        without_all = text_paper(house, stand, (0,), KINDS)
        self.assertIs(check_text(house, stand, (0,), KINDS, without_all), False)

    def test_a_move_in_a_vote_counts_for_none(self):
        """What carries may bring up a put that wasn't moved: without "put" the table's text still comes."""
        house = SMALL["no limit, lay and take"]
        stand = ("floor", (), (0,), (), False, 1, 0, None)
        self.assertEqual(texts_from(house, stand, ("put",)), ((), (0,)))
        row = row_to_text(house, stand, (0,), ("put",))
        self.assertIs(check_text(house, stand, (0,), ("put",), ("row", row)), True)
        self.assertEqual(texts_from(house, stand, ("put", "take")), ((),))

    def test_forms(self):
        wrong = strange_values() + [(), ("row",), ("row", (), ()), ["row", ()], ("round", ()), ("shut", ()),
                                    ("row", []),
                                    ("closed", "over"), ("closed", [BARE]), (("row",), ()), ("path", ())]
        wrong += [(value, ()) for value in strange_values()] + [("row", value) for value in strange_values()]
        for paper in wrong:
            self.check_fails("form", BARE, (0,), ("put",), paper, HOUSE)
            self.check_fails("form", first_stand(GREAT), (0,), ("put",), paper, GREAT)


class NarrowPapersTest(unittest.TestCase):
    house = SMALL["one member"]
    stand = ("floor", (), None, (("put", (0,)),), False, 0, 0, 1)
    put = stand[:6] + (1, 1)

    def check_fails(self, word, goal, paper, stand=None):
        check_refused(self, BadPaper, {"word": word}, check_narrow, self.house, stand or self.stand, (0,), goal, paper)

    def test_round(self):
        row = narrow_paper(self.house, self.stand, (0,), self.put[:7] + (0,))[1]
        self.assertEqual(row, (("pass",), ("vote", (0,)), ("pass",)))
        asked = self.put[:7] + (0,)
        self.assertIs(check_narrow(self.house, self.stand, (0,), asked, ("round", row)), False)
        self.check_fails("round", self.put, ("round", row))
        self.check_fails("round", self.stand, ("round", row))
        self.check_fails("round", ("over", (0,)), ("round", row))
        self.check_fails("round", ("floor", (0,), None, (), False, 0, 0, 1), ("round", row))
        for at in range(3):
            self.check_fails("round", asked, ("round", row[:at]))
            for act in (None, ["pass"], ("vote", ()), ("vote", (False,)), ("move", ("amend", 0))):
                self.check_fails("round", asked, ("round", row[:at] + (act,) + row[at + 1:]))
        self.assertIs(check_narrow(self.house, ("over", (0,)), (0,), asked, ("round", ())), False)
        self.check_fails("round", ("over", (0,)), ("round", ()), ("over", (0,)))

    def test_shut(self):
        for goal in narrows(self.house, self.stand, (0,))[1:]:
            told = narrow_paper(self.house, self.stand, (0,), goal)[1]
            self.assertIs(check_narrow(self.house, self.stand, (0,), goal, ("shut", told[::-1])), True)
            for at in range(len(told)):
                self.check_fails("shut", goal, ("shut", told[:at] + told[at + 1:]))
                self.check_fails("shut", goal, ("shut", told + (told[at],)))
                for value in strange_values() + [list(told[at]), goal, ("over", (0,))]:
                    self.check_fails("shut", goal, ("shut", told[:at] + (value,) + told[at + 1:]))
            self.check_fails("shut", goal, ("shut", told + (goal,)))
            self.check_fails("shut", goal, ("shut", told + (("over", (0,)),)))
            self.check_fails("shut", goal, ("shut", ()))
            self.assertIs(check_narrow(self.house, self.stand, (0,), goal, ("shut", with_over(told))), True)

    def test_shut_without_the_text_itself(self):
        house = SMALL["two members"]
        first = ("floor", (0,), None, (), False, 0, 0, 0)
        goal = first[:5] + (1, 1, 0)
        self.assertEqual(narrows(house, first, (0,)), (first, goal, ("over", (0,))))
        self.assertIs(check_narrow(house, first, (0,), goal, ("shut", (first,))), True)
        for more in (goal, ("over", (0,))):
            check_refused(self, BadPaper, {"word": "shut"}, check_narrow, house, first, (0,), goal,
                          ("shut", (first, more)))

    def test_shut_for_the_first_stand(self):
        self.assertIs(check_narrow(self.house, self.stand, (0,), self.stand, ("shut", ())), True)
        self.assertIs(check_narrow(self.house, ("over", (0,)), (0,), ("over", (0,)), ("shut", ())), True)
        for told in ((self.stand,), (None,), web_of(self.house, self.stand), (("over", ()),)):
            self.check_fails("shut", self.stand, ("shut", told))

    def test_what_is_no_narrow_has_no_shut_paper(self):
        for goal in web_of(self.house, self.stand):
            if not is_narrow(self.house, self.stand, (0,), goal):
                web = web_of(self.house, self.stand)
                told = tuple(each for each in web if each not in (goal, ("over", (0,))))
                self.check_fails("shut", goal, ("shut", told))
                self.check_fails("shut", goal, ("shut", web))
                self.check_fails("shut", goal, ("shut", ()))

    def test_forms(self):
        wrong = strange_values() + [(), ("round",), ("round", (), ()), ["round", ()], ("row", ()), ("closed", ()),
                                    ("round", []),
                                    ("shut", "over"), ("shut", [BARE]), (("round",), ()), ("Shut", ())]
        wrong += [(value, ()) for value in strange_values()] + [("shut", value) for value in strange_values()]
        for paper in wrong:
            for goal in (self.stand, self.put, ("over", (0,))):
                self.check_fails("form", goal, paper)


def with_over(stands):
    """Stands with one more that is over, from which nothing comes."""
    return stands if ("over", ()) in stands else stands + (("over", ()),)


class RefusalsTest(unittest.TestCase):

    def test_kinds(self):
        for wrong, number in wrong_kinds():
            for house, stand in ((HOUSE, BARE), (GREAT, first_stand(GREAT))):
                check_refused(self, BadMotion, {"place": number}, texts_from, house, stand, wrong)
                for function in (row_to_text, text_paper):
                    check_refused(self, BadMotion, {"place": number}, function, house, stand, (0,), wrong)
                check_refused(self, BadMotion, {"place": number}, check_text, house, stand, (0,), wrong, None)

    def test_kinds_that_the_book_lacks_are_some_too(self):
        house = SMALL["put alone"]
        self.assertEqual(len(texts_from(house, first_stand(house), KINDS[1:])), 4)

    def calls(self):
        """Each function with how many arguments come behind text."""
        return [(row_to_text, 1), (text_paper, 1), (check_text, 2), (keeping_acts, 0), (narrows, 0), (is_narrow, 1),
                (narrow_paper, 1), (check_narrow, 2)]

    def test_the_turn_of_refusals(self):
        for house, stand in ((HOUSE, BARE), (GREAT, first_stand(GREAT))):
            for function, more in self.calls():
                rest = (None,) * more
                check_refused(self, BadHouse, {"place": "weights"}, function, ((),) + house[1:], None, None, *rest)
                check_refused(self, BadStand, {"place": "passes"}, function, house, stand[:6] + (3, -1), None, *rest)
                for text, number in (((9,), 0), (None, None), ((0, 0), 1), ("none", None), ((True,), 0)):
                    check_refused(self, BadText, {"number": number}, function, house, stand, text, *rest)
            for function in (is_narrow, narrow_paper):
                check_refused(self, BadStand, {"place": None}, function, house, stand, (0,), None)
                check_refused(self, BadStand, {"place": "left"}, function, house, stand, (0,), BARE[:7] + (10,))
            check_refused(self, BadStand, {"place": None}, check_narrow, house, stand, (0,), None, None)

    def test_text_none_stands_behind_all_but_papers(self):
        stand = ("floor", (0,), None, (), False, 0, 0, 0)
        for goal in (stand, ("over", (1,)), STAND):
            for function in (is_narrow, narrow_paper):
                check_refused(self, BadText, {"number": "none"}, function, HOUSE, stand, (1,), goal)
            for paper in (None, ("shut", ()), ("round", ()), ("shut", (None,))):
                check_refused(self, BadText, {"number": "none"}, check_narrow, HOUSE, stand, (1,), goal, paper)
        check_refused(self, BadStand, {"place": None}, is_narrow, HOUSE, stand, (1,), ())
        self.assertEqual(narrows(HOUSE, stand, (1,)), ())

    def test_too_great(self):
        for house, stand in ((EDGE_HOUSE, BEYOND_EDGE), (GREAT, first_stand(GREAT))):
            calls = [(texts_from, ((),)), (texts_from, (KINDS,)), (row_to_text, ((0,), ())), (row_to_text, ((), KINDS)),
                     (text_paper, ((0,), ())), (text_paper, ((0,), KINDS)), (keeping_acts, ((0,),)), (narrows, ((0,),)),
                     (is_narrow, ((0,), stand)), (narrow_paper, ((0,), stand)),
                     (check_narrow, ((0,), stand, ("shut", ()))),
                     (check_narrow, ((0,), stand, None))]
            for function, rest in calls:
                check_refused(self, TooGreat, {"most": 3000}, function, house, stand, *rest)
        lonely = ("floor", (0,), None, (("put", ()),), False, 0, 3, 0)
        self.assertIs(is_narrow(GREAT, lonely, (0,), ("over", (0,))), True)

    def test_just_not_too_great(self):
        self.assertEqual(len(texts_from(EDGE_HOUSE, ON_EDGE, ())), 8)
        chain = narrows(EDGE_HOUSE, ON_EDGE, (0,))
        self.assertEqual((chain[0], chain[-1]), (ON_EDGE, ("over", (0,))))
        for goal in chain:
            paper = narrow_paper(EDGE_HOUSE, ON_EDGE, (0,), goal)
            self.assertIs(check_narrow(EDGE_HOUSE, ON_EDGE, (0,), goal, paper), True)

    def test_no_web_is_gone_through_for_papers_on_texts(self):
        stand = first_stand(GREAT)
        self.assertIs(check_text(GREAT, stand, (), KINDS, ("row", (("pass",),) * 3)), True)
        check_refused(self, BadPaper, {"word": "closed"}, check_text, GREAT, stand, (0,), KINDS, ("closed", (stand,)))
        waiting = tuple(stand[:5] + (at, at, 9) for at in range(3)) + (("over", ()),)
        self.assertIs(check_text(GREAT, stand, (0,), KINDS, ("closed", waiting)), False)


if __name__ == "__main__":
    unittest.main()

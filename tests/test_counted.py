"""floorpowers/counted.py: rows counted and numbered there and back, tallies, rings, sittings, lengths and papers."""

import unittest

from floorpowers.counted import (check_length, is_endless, length_paper, longest_row, number_of, ring_from,
                                 row_numbered, rows_counted, sittings_counted, tally, web_length)
from floorpowers.errors import BadHouse, BadNumber, BadPaper, BadRow, BadStand, TooGreat
from floorpowers.rows import bound_of
from floorpowers.webs import web_of
from helpers import check_refused, strange_values
from models import key
from sittings import (BEYOND_EDGE, EDGE_HOUSE, GREAT, HALF, ON_EDGE, SMALL, acts, after, all_rows, book, first_stand,
                      graph, least_rows, lots)
from test_webs import ROW_HOUSES, odd_stand, starts

ENDLESS = [house for house in SMALL.values() if house[4] is None]
LIMITED = [house for house in SMALL.values() if house[4] is not None]
END_HOUSE = SMALL["no limit"]


def by_length(house, stand, most):
    """For each number of acts up to most all rows, ascending, with where they lead."""
    rows = [[] for _ in range(most + 1)]
    for row, way in all_rows(graph(house, stand), stand, most):
        rows[len(row)].append((row, way[-1]))
    return [sorted(each) for each in rows]


def counts_apart(house, stand, many):
    """How many rows of so many acts lead to each stand, act by act."""
    counts = {stand: 1}
    for _ in range(many):
        further = {}
        for here, count in counts.items():
            for act in acts(house, here):
                there = after(house, here, act)
                further[there] = further.get(there, 0) + count
        counts = further
    return counts


def sittings_apart(arrows, stand):
    """All rows to a stand that is over, one behind the other."""
    if stand[0] == "over":
        yield ()
    for act, there in arrows[stand].items():
        for row in sittings_apart(arrows, there):
            yield (act,) + row


class CountsTest(unittest.TestCase):

    def test_told_out(self):
        stand = first_stand(END_HOUSE)
        self.assertEqual([rows_counted(END_HOUSE, stand, many) for many in range(4)], [1, 3, 3, 5])
        self.assertEqual(tally(END_HOUSE, stand, 1), (((), 1), ((0,), 0)))
        self.assertEqual(tally(END_HOUSE, stand, 4), (((), 3), ((0,), 1)))
        self.assertEqual(row_numbered(END_HOUSE, stand, 1, 1), (("move", ("put", (0,))),))
        self.assertEqual(number_of(END_HOUSE, stand, (("pass",),)), 2)
        self.assertEqual(rows_counted(END_HOUSE, ("over", (0,)), 0), 1)
        self.assertEqual(rows_counted(END_HOUSE, ("over", (0,)), 1), 0)
        self.assertEqual(tally(END_HOUSE, ("over", (0,)), 0), (((0,), 1),))
        self.assertEqual(tally(END_HOUSE, ("over", (0,)), 60), (((0,), 0),))

    def test_all_rows_of_few_acts_listed_apart(self):
        for name, most in ROW_HOUSES.items():
            house = SMALL[name]
            for stand in starts(house) + [odd_stand(house)]:
                ends = sorted(here for here in graph(house, stand) if here[0] == "over")
                for many, rows in enumerate(by_length(house, stand, most - 1)):
                    self.assertEqual(rows_counted(house, stand, many), len(rows))
                    told = tuple((end[1], sum(there == end for _, there in rows)) for end in ends)
                    self.assertEqual(tally(house, stand, many), told)
                    for number, (row, _) in list(enumerate(rows))[::max(1, len(rows) // 25)]:
                        self.assertEqual(row_numbered(house, stand, many, number), row)
                        self.assertEqual(number_of(house, stand, row), number)

    def test_there_and_back_over_all_numbers(self):
        for house in SMALL.values():
            stand = starts(house)[-2]
            for many in (0, 1, 3):
                rows = [row_numbered(house, stand, many, at) for at in range(rows_counted(house, stand, many))]
                self.assertEqual(rows, sorted(set(rows)))
                self.assertEqual([number_of(house, stand, row) for row in rows], list(range(len(rows))))

    def test_votes_are_numbered_lot_by_lot(self):
        house = SMALL["three members"]
        stand = ("floor", (), None, (("put", (0,)), ("amend", 0)), False, 0, 3, 0)
        self.assertEqual(rows_counted(house, stand, 1), 8)
        self.assertEqual([row_numbered(house, stand, 1, at) for at in range(8)],
                         [(("vote", lot),) for lot in lots(3)])
        self.assertEqual(rows_counted(house, stand, 5), 64)
        self.assertEqual(number_of(house, stand, (("vote", (0, 2)),) + (("pass",),) * 3 + (("vote", (2,)),)), 39)

    def test_many_acts(self):
        for house in list(SMALL.values())[::2]:
            stand = first_stand(house)
            for many in (9, 60):
                counts = counts_apart(house, stand, many)
                self.assertEqual(rows_counted(house, stand, many), sum(counts.values()))
                self.assertEqual(dict(tally(house, stand, many)),
                                 {here[1]: counts.get(here, 0) for here in web_of(house, stand) if here[0] == "over"})

    def test_greatest_numbers(self):
        stand = first_stand(END_HOUSE)
        many = rows_counted(END_HOUSE, stand, 60)
        for number in (0, many // 3, many - 1):
            row = row_numbered(END_HOUSE, stand, 60, number)
            self.assertEqual((len(row), number_of(END_HOUSE, stand, row)), (60, number))
        for number in (many, -1, many + 10 ** 900):
            check_refused(self, BadNumber, {"value": number}, row_numbered, END_HOUSE, stand, 60, number)
        check_refused(self, BadNumber, {"value": 0}, row_numbered, END_HOUSE, ("over", ()), 1, 0)
        self.assertEqual(row_numbered(END_HOUSE, ("over", ()), 0, 0), ())

    def test_texts_that_no_row_of_so_many_acts_comes_to(self):
        for house in LIMITED:
            stand = first_stand(house)
            most = bound_of(house, stand) + 1
            self.assertEqual([number for _, number in tally(house, stand, min(60, most))][0] > 0, most > 60)
            self.assertEqual(len(tally(house, stand, 0)), len([here for here in graph(house, stand)
                                                               if here[0] == "over"]))
            self.assertTrue(all(number == 0 for _, number in tally(house, stand, 0)))

    def test_sixty_acts_and_one_more(self):
        row = (("move", ("end",)), ("pass",), ("vote", ())) * 21
        stand = first_stand(END_HOUSE)
        self.assertEqual(row_numbered(END_HOUSE, stand, 60, number_of(END_HOUSE, stand, row[:60])), row[:60])
        check_refused(self, BadRow, {"place": 60}, number_of, END_HOUSE, stand, row[:61])
        check_refused(self, BadRow, {"place": 60}, number_of, END_HOUSE, stand, row)
        check_refused(self, BadRow, {"place": 62}, number_of, END_HOUSE, stand, row[:62] + (None,))
        check_refused(self, BadRow, {"place": 2}, number_of, END_HOUSE, stand, row[:2] + (None,) + row)
        for many in (61, -1, 10 ** 999, True, None):
            for function, rest in ((rows_counted, ()), (tally, ()), (row_numbered, (None,))):
                check_refused(self, BadNumber, {"value": many}, function, END_HOUSE, stand, many, *rest)


class EndlessTest(unittest.TestCase):

    def rings(self, arrows, stand):
        """The least ring of a stand by the least rows from it, None if there is none."""
        rows = least_rows(arrows, stand)
        found = [rows[here] + (act,) for here in rows for act, there in arrows[here].items() if there == stand]
        return min(found, key=key, default=None)

    def test_told_out(self):
        stand = first_stand(END_HOUSE)
        self.assertIs(is_endless(END_HOUSE, stand), True)
        self.assertEqual(ring_from(END_HOUSE, stand), ((), (("move", ("end",)), ("pass",), ("vote", ()))))
        for house in SMALL.values():
            self.assertIs(is_endless(house, ("over", ())), False)
            self.assertIs(ring_from(house, ("over", ())), None)
            self.assertEqual((sittings_counted(house, ("over", ())), web_length(house, ("over", ()))), (1, 0))
            self.assertEqual(longest_row(house, ("over", ())), ())

    def test_rings_worked_out_apart(self):
        lonely = 0
        for house in SMALL.values():
            for stand in (starts(house) + [odd_stand(house)])[::1 if house in ENDLESS else 4]:
                arrows = graph(house, stand)
                rows = least_rows(arrows, stand)
                found = None
                for here in sorted(arrows, key=lambda each: key(rows[each])):
                    ring = self.rings(arrows, here)
                    if ring is not None:
                        found = (rows[here], ring)
                        break
                self.assertEqual(ring_from(house, stand), found)
                self.assertIs(is_endless(house, stand), found is not None)
                self.assertEqual(found is not None, house[4] is None and stand[0] == "floor")
                lonely += found is not None and found[0] != ()
        self.assertGreater(lonely, 2)

    def test_sittings_listed_apart(self):
        for house in LIMITED:
            house = house[:4] + (1,) if house != SMALL["five members"] else house[:4] + (0,)
            for stand in (first_stand(house), first_stand(house, (0,), len(house[0]) - 1)):
                told = list(sittings_apart(graph(house, stand), stand))
                self.assertEqual(sittings_counted(house, stand), len(told))
                self.assertEqual(web_length(house, stand), max(map(len, told)))
                most = [row for row in told if len(row) == web_length(house, stand)]
                self.assertEqual(longest_row(house, stand), min(most))

    def test_lengths_of_greater_webs(self):
        for house in LIMITED:
            stand = first_stand(house)
            arrows = graph(house, stand)
            known = {}
            for here in sorted(arrows, key=lambda each: each[7] if each[0] == "floor" else -1):
                self.measure(arrows, here, known)
            row = longest_row(house, stand)
            self.assertEqual((sittings_counted(house, stand), len(row)), known[stand])
            self.assertEqual(web_length(house, stand), len(row))
            self.assertLessEqual(len(row), bound_of(house, stand))
            for many in (5, 20):
                self.assertEqual(sum(counts_apart(house, stand, many).values()), rows_counted(house, stand, many))

    def measure(self, arrows, stand, known):
        """How many sittings there are from a stand, and how many acts they have at most."""
        if stand not in known:
            told = [self.measure(arrows, there, known) for there in arrows[stand].values()]
            known[stand] = (sum(many for many, _ in told) or 1, max((most + 1 for _, most in told), default=0))
        return known[stand]

    def test_none_of_endless_ones(self):
        for house in ENDLESS:
            for stand in starts(house):
                for function in (sittings_counted, web_length, longest_row):
                    self.assertEqual(function(house, stand) is None, stand[0] == "floor")


class LengthPapersTest(unittest.TestCase):

    def check_fails(self, word, house, stand, most, paper):
        check_refused(self, BadPaper, {"word": word}, check_length, house, stand, most, paper)

    def test_papers_hold_by_one_word_each(self):
        for house in SMALL.values():
            for stand in starts(house) + [odd_stand(house)]:
                length = web_length(house, stand)
                mosts = (0, 7, 199, 200) if length is None else {0, max(0, length - 1), length, length + 1, 200}
                for most in mosts:
                    paper = length_paper(house, stand, most)
                    is_enough = length is not None and length <= most
                    self.assertEqual(paper[0], "heights" if is_enough else "long")
                    self.assertIs(check_length(house, stand, most, paper), is_enough)
                    if not is_enough:
                        heights = tuple(range(len(web_of(house, stand)), 0, -1))
                        self.check_fails("heights", house, stand, most, ("heights", heights))

    def test_heights_with_one_thing_otherwise(self):
        house = SMALL["two members"][:4] + (1,)
        stand = first_stand(house)
        most = web_length(house, stand)
        heights = length_paper(house, stand, most)[1]
        self.assertEqual((len(heights), heights[0]), (len(web_of(house, stand)), most))
        higher = tuple(height + 1 for height in heights)
        self.assertIs(check_length(house, stand, most + 1, ("heights", higher)), True)
        self.check_fails("heights", house, stand, most, ("heights", higher))
        self.check_fails("heights", house, stand, most - 1, ("heights", heights))
        for paper in (heights[:-1], heights + (0,), (), heights[::-1]):
            self.check_fails("heights", house, stand, most, ("heights", paper))
        for at, height in enumerate(heights):
            for value in strange_values()[:-1] + [height - 1, -1, str(height), (height,)]:
                self.check_fails("heights", house, stand, most, ("heights", heights[:at] + (value,) + heights[at + 1:]))

    def test_rows_with_one_thing_otherwise(self):
        house = SMALL["two members"]
        stand = first_stand(house)
        row = longest_row(house, stand)
        self.assertIs(check_length(house, stand, len(row) - 1, ("long", row)), False)
        for most in (len(row), len(row) + 1, 200):
            self.check_fails("long", house, stand, most, ("long", row))
        for at in range(len(row)):
            self.check_fails("long", house, stand, at, ("long", row[:at]))
            self.assertIs(check_length(house, stand, at, ("long", row[:at + 1])), False)
            self.check_fails("long", house, stand, 0, ("long", row[:at] + (("vote", (2,)),) + row[at + 1:]))
            self.check_fails("long", house, stand, 0, ("long", row[:at] + (None,) + row[at + 1:]))
        for value in strange_values() + [("vote", ())]:
            self.check_fails("long", house, stand, 0, ("long", (value,)))
            self.check_fails("long", house, stand, 0, ("long", row + (value,)))
        endless = (("move", ("end",)), ("pass",), ("vote", ())) * 67
        for most, paper in ((200, endless), (199, endless[:200])):
            self.assertIs(check_length(END_HOUSE, first_stand(END_HOUSE), most, ("long", paper)), False)
        self.check_fails("long", END_HOUSE, first_stand(END_HOUSE), 200, ("long", endless[:200]))

    def test_forms(self):
        wrong = strange_values() + [(), ("long",), ("long", (), ()), ["long", ()], ("row", ()), ("Heights", ()),
                                    ("heights", [0]), ("long", "pass"), ((), "long")]
        wrong += [(value, ()) for value in strange_values()]
        wrong += [(word, value) for value in strange_values() for word in ("long", "heights")]
        for paper in wrong:
            self.check_fails("form", END_HOUSE, ("over", ()), 0, paper)
            self.check_fails("form", GREAT, first_stand(GREAT), 0, paper)

    def test_most(self):
        for most in strange_values() + [-1, 201, (0,), 10 ** 99]:
            for stand in (("over", ()), first_stand(GREAT)):
                check_refused(self, BadNumber, {"value": most}, length_paper, GREAT, stand, most)
                check_refused(self, BadNumber, {"value": most}, check_length, GREAT, stand, most, None)


class TooGreatTest(unittest.TestCase):

    def calls(self):
        """Each function that goes through the web, with its other arguments."""
        return [(rows_counted, (0,)), (rows_counted, (60,)), (tally, (0,)), (row_numbered, (0, 0)),
                (row_numbered, (0, None)), (number_of, ((),)), (is_endless, ()), (ring_from, ()),
                (sittings_counted, ()), (web_length, ()), (longest_row, ()), (length_paper, (0,)),
                (check_length, (0, ("heights", ()))), (check_length, (200, ("heights", (None,))))]

    def test_too_great(self):
        free = EDGE_HOUSE[:4] + (None,)
        for house, stand in ((EDGE_HOUSE, BEYOND_EDGE), (GREAT, first_stand(GREAT)),
                             (free, first_stand(free))):
            for function, rest in self.calls():
                check_refused(self, TooGreat, {"most": 3000}, function, house, stand, *rest)

    def test_just_not_too_great(self):
        self.assertEqual(rows_counted(EDGE_HOUSE, ON_EDGE, 1), 1)
        self.assertIs(is_endless(EDGE_HOUSE, ON_EDGE), False)
        most = web_length(EDGE_HOUSE, ON_EDGE)
        self.assertEqual(len(longest_row(EDGE_HOUSE, ON_EDGE)), most)
        paper = length_paper(EDGE_HOUSE, ON_EDGE, most)
        self.assertIs(check_length(EDGE_HOUSE, ON_EDGE, most, paper), True)
        self.check_heights_are_needed(paper, most)

    def check_heights_are_needed(self, paper, most):
        heights = list(paper[1])
        heights[1500] -= 1
        check_refused(self, BadPaper, {"word": "heights"}, check_length, EDGE_HOUSE, ON_EDGE, most,
                      ("heights", tuple(heights)))

    def test_long_rows_without_a_web(self):
        stand = first_stand(GREAT)
        row = (("pass",),) * 3
        self.assertIs(check_length(GREAT, stand, 2, ("long", row)), False)
        check_refused(self, BadPaper, {"word": "long"}, check_length, GREAT, stand, 3, ("long", row))
        check_refused(self, BadPaper, {"word": "long"}, check_length, GREAT, stand, 0, ("long", row * 2))

    def test_behind_the_other_refusals(self):
        stand = first_stand(GREAT)
        for function, rest in self.calls():
            check_refused(self, BadHouse, {"place": "next"}, function, GREAT[:3] + ((), 9), stand, *rest)
            check_refused(self, BadStand, {"place": "left"}, function, GREAT, stand[:7] + (10,), *rest)
        for function, rest in ((rows_counted, ()), (tally, ()), (row_numbered, (None,))):
            check_refused(self, BadNumber, {"value": 61}, function, GREAT, stand, 61, *rest)
        check_refused(self, BadRow, {"place": 1}, number_of, GREAT, stand, (("pass",), None))
        check_refused(self, BadRow, {"place": 60}, number_of, GREAT, stand, self.long_row(GREAT, stand, 61))
        check_refused(self, TooGreat, {"most": 3000}, number_of, GREAT, stand, self.long_row(GREAT, stand, 60))
        for number in strange_values() + [-1, 1, 9]:
            check_refused(self, BadNumber, {"value": number}, row_numbered, END_HOUSE, ("over", ()), 0, number)

    def long_row(self, house, stand, many):
        """A row of so many acts: moves that are voted down, as long as it takes."""
        row = ()
        while len(row) < many:
            act = ("pass",)
            if stand[6] == len(house[0]):
                act = ("vote", ())
            elif stand[3] == () and stand[6] == len(house[0]) - 1:
                act = ("move", ("put", (0,)))
            row, stand = row + (act,), after(house, stand, act)
        return row

    def test_books_of_one_kind(self):
        house = ((1, 1), 1, book(put=(0, HALF)), (0, 0), None)
        self.assertEqual(ring_from(house, first_stand(house, (), 1))[0], (("move", ("put", (0,))),))


if __name__ == "__main__":
    unittest.main()

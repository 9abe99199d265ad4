"""floorpowers/motions.py: motions of each kind, there or lacking in the book."""

import unittest

from floorpowers.errors import BadHouse, BadMotion
from floorpowers.houses import all_texts, kinds_of
from floorpowers.motions import all_motions, motion_rank, need_motion
from helpers import check_refused, strange_values
from test_houses import HOUSE, KINDS, RULES, all_books


def houses():
    """Houses of all books and one to three clauses."""
    return [HOUSE[:1] + (clauses, book) + HOUSE[3:] for book in all_books() for clauses in (1, 2, 3)]


def model_motions(house):
    """All motions, by the words."""
    motions = {"put": [("put", text) for text in all_texts(house) if text != ()],
               "amend": [("amend", clause) for clause in range(house[1])]}
    return sorted(sum([motions.get(rule[0], [(rule[0],)]) for rule in house[2]], []))


class MotionsTest(unittest.TestCase):

    def test_all_ascend(self):
        house = ((1,), 1, HOUSE[2], (0,), None)
        self.assertEqual(all_motions(house), (("amend", 0), ("close",), ("end",), ("lay",), ("put", (0,)), ("take",)))
        for house in houses():
            self.assertEqual(all_motions(house), tuple(model_motions(house)))

    def test_right_and_lacking_ones(self):
        everything = all_motions(HOUSE)
        for house in houses():
            right = all_motions(house)
            for motion in everything:
                if motion in right:
                    self.assertIs(need_motion(house, motion), motion)
                    self.assertEqual(motion_rank(house, motion), RULES[motion[0]][0])
                else:
                    self.check_wrong(house, motion)

    def check_wrong(self, house, motion):
        place = {"put": "change", "amend": "clause"}[motion[0]] if motion[0] in kinds_of(house) else None
        check_refused(self, BadMotion, {"place": place}, need_motion, house, motion)
        check_refused(self, BadMotion, {"place": place}, motion_rank, house, motion)

    def test_what_has_no_form(self):
        values = strange_values() + [(), ("put",), ("put", (0,), 0), ("amend",), ("amend", 0, 0), ("pass",), 0,
                                     ("vote", ()), ["lay"], ["put", (0,)], ("Put", (0,)), ((0,), "put"),
                                     ("move", ("lay",))]
        values += [(kind, 0) for kind in KINDS[2:]] + [(kind, ()) for kind in KINDS[2:]]
        values += [(value,) for value in strange_values()] + [(value, 0) for value in strange_values()]
        for value in values:
            check_refused(self, BadMotion, {"place": None}, need_motion, HOUSE, value)
            check_refused(self, BadMotion, {"place": None}, motion_rank, HOUSE, value)

    def test_changes(self):
        for change in strange_values() + [(), (3,), (-1,), (0, 0), (1, 0), (0, True), [0], 0, ((0,),), (0, 3)]:
            check_refused(self, BadMotion, {"place": "change"}, need_motion, HOUSE, ("put", change))

    def test_clauses(self):
        for clause in strange_values() + [3, -1, (0,), "0", 10 ** 20]:
            check_refused(self, BadMotion, {"place": "clause"}, need_motion, HOUSE, ("amend", clause))

    def test_the_house_comes_first(self):
        check_refused(self, BadHouse, {"place": "limit"}, need_motion, HOUSE[:4] + (10,), None)
        check_refused(self, BadHouse, {"place": None}, motion_rank, None, None)
        check_refused(self, BadHouse, {"place": "clauses"}, all_motions, HOUSE[:1] + (0,) + HOUSE[2:])


if __name__ == "__main__":
    unittest.main()

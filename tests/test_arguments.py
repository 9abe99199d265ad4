"""The conventions, for all functions at once: names of arguments, refusals and their turn, nothing modified."""

import importlib
import inspect
import unittest

from floorpowers.errors import (BadFamily, BadGoal, BadHouse, BadLot, BadMember, BadMotion, BadName, BadNumber,
                                BadPaper, BadShare, BadText)
import beside_arguments
import far_arguments
import minute_arguments
import power_arguments
import row_arguments
import text_arguments
from helpers import OtherInt, OtherStr, OtherTuple, are_plain, check_refused, strange_values

HALF = (1, 2, True)
BOOK = (("put", 1, HALF), ("amend", 3, (2, 3, False)), ("close", 5, (1, 1, False)))
HOUSE = ((3, 2, 1), 2, BOOK, (1, 2, 0), 4)

# For each function its arguments in order: the name, a right value, and the kind by which wrong ones are told.
FUNCTIONS = {
    "members": {
        "need_weights": [("weights", (3, 2, 1), "weights")],
        "need_share": [("share", HALF, "share")],
        "need_lot_among": [("many", 3, "many"), ("lot", (0, 2), "lot")],
        "is_share": [("value", HALF, None)],
        "every_lot": [("many", 3, "many")],
        "others_of": [("many", 3, "many"), ("lot", (0, 2), "lot")],
        "is_lot_within": [("many", 3, "many"), ("lot", (2,), "lot"), ("far_lot", (0, 2), "lot")],
        "weight_of": [("weights", (3, 2, 1), "weights"), ("lot", (0, 2), "lot")],
        "carries": [("weights", (3, 2, 1), "weights"), ("share", HALF, "share"), ("lot", (0, 2), "lot")],
        "carrying": [("weights", (3, 2, 1), "weights"), ("share", HALF, "share")],
    },
    "families": {
        "need_family": [("many", 3, "many"), ("family", ((0,), (1, 2)), "family")],
        "is_in_family": [("many", 3, "many"), ("family", ((0,), (1, 2)), "family"), ("lot", (1,), "lot")],
        "lots_in": [("many", 3, "many"), ("family", ((0,), (1, 2)), "family")],
        "family_from": [("many", 3, "many"), ("lots", ((1, 2), (0, 1), (0,), (0,)), "lots")],
        "contrary": [("many", 3, "many"), ("family", ((0,), (1, 2)), "family")],
        "both_of": [("many", 3, "many"), ("family", ((0,), (1, 2)), "family"), ("far_family", ((1,),), "family")],
        "either_of": [("many", 3, "many"), ("family", ((0,), (1, 2)), "family"), ("far_family", ((1,),), "family")],
        "who_matters": [("many", 3, "many"), ("family", ((0, 1),), "family")],
        "who_is_needed": [("many", 3, "many"), ("family", ((0, 1),), "family")],
        "who_is_enough": [("many", 3, "many"), ("family", ((0,), (1, 2)), "family")],
        "is_as_strong": [("many", 3, "many"), ("family", ((0,), (1, 2)), "family"), ("member", 1, "member"),
                         ("far_member", 0, "member")],
        "strength_rows": [("many", 3, "many"), ("family", ((0,), (1, 2)), "family")],
        "family_count": [("many", 3, "many")],
        "all_families": [("many", 3, "many")],
    },
    "weighings": {
        "weighed_family": [("many", 3, "many"), ("weighing", ((2, 1, 1), 2), "weighing")],
        "is_weighed": [("many", 3, "many"), ("family", ((0,), (1, 2)), "family")],
        "least_weighing": [("many", 3, "many"), ("family", ((0,), (1, 2)), "family")],
        "full_weighing": [("many", 3, "many"), ("family", ((0,), (1, 2)), "family")],
        "weighing_paper": [("many", 3, "many"), ("family", ((0,), (1, 2)), "family")],
        "check_weighing": [("many", 3, "many"), ("family", ((0,), (1, 2)), "family"),
                           ("paper", ("loads", (2, 1, 1), 2), "weighing paper")],
        "shares_of": [("weights", (3, 2, 1), "weights"), ("family", ((0, 1), (0, 2)), "family")],
        "weights_alike": [("weights", (3, 2, 1), "weights"), ("share", HALF, "share"),
                          ("far_weights", (4, 2, 2), "far weights"), ("far_share", HALF, "share")],
    },
    "houses": {
        "need_house": [("house", HOUSE, "house")],
        "need_text": [("house", HOUSE, "house"), ("text", (0, 1), "text")],
        "need_goal": [("house", HOUSE, "house"), ("goal", ((), (1,)), "goal")],
        "need_member": [("house", HOUSE, "house"), ("member", 2, "member")],
        "need_lot_of": [("house", HOUSE, "house"), ("lot", (0, 2), "lot")],
        "is_house": [("value", HOUSE, None)],
        "kinds_of": [("house", HOUSE, "house")],
        "rule_of": [("house", HOUSE, "house"), ("kind", "amend", "kind")],
        "is_carried": [("house", HOUSE, "house"), ("kind", "put", "kind"), ("lot", (0, 2), "lot")],
        "all_texts": [("house", HOUSE, "house")],
        "turned_text": [("house", HOUSE, "house"), ("text", (0, 1), "text"), ("change", (1,), "text")],
        "house_with": [("house", HOUSE, "house"), ("kind", "lay", "any kind"), ("rule", (0, HALF), "rule")],
    },
    "motions": {
        "need_motion": [("house", HOUSE, "house"), ("motion", ("put", (0,)), "motion")],
        "all_motions": [("house", HOUSE, "house")],
        "motion_rank": [("house", HOUSE, "house"), ("motion", ("amend", 1), "motion")],
    },
}


def all_wrong(kind, field, good=()):
    """Values of all kinds, each refused by itself."""
    return [(value, kind, {field: value}) for value in strange_values() + list(good)]


def no_tuples():
    """Values that are no tuple."""
    return strange_values() + [0, 1]


def wrong_lots(kind, field, with_whole):
    """What is no ascending tuple of integers below two (or of lots below three)."""
    top = 3 if with_whole else 2
    pairs = [((top,), 0), ((-1,), 0), ((0, 0), 1), ((1, 0), 1), ((0, 1, 1), 2), ((0, top), 1), ((True,), 0),
             ((0, True), 1), ((False,), 0), (("0",), 0), ((None,), 0), (((),), 0), (((0,), 1), 0), ((0, [1]), 1),
             ((10 ** 999,), 0), ((-10 ** 999,), 0), ((0, 1, top), 2), ((1, 1, 9), 1), (tuple(range(top + 1)), top)]
    pairs += [((0, value), 1) for value in strange_values()] + [(value, None) for value in no_tuples()]
    return [(value, kind, {field: number}) for value, number in pairs]


def wrong_families():
    """What is no family of three members."""
    pairs = [(((3,),), 0), (((0,), (0,)), 1), (((1,), (0,)), 1), (((0,), (0, 1)), 1), (((0, 1), (1,)), 1),
             (((), (0,)), 1), (((), ()), 1), (((0, 1), (0, 2), (0,)), 2), (((0, 2), (1,), (1, 2)), 2),
             (((0, 1), (2,), [3]), 2), ((0,), 0), (((1, 0),), 0), (((True,),), 0), ((((0,),),), 0),
             (((0, 1), (0, 2), (1,)), 2), (((0,), (1, 1), (0,)), 1), (((0, 1, 2), (1,)), 1)]
    pairs += [((value,), 0) for value in strange_values()] + [(((0,), value), 1) for value in strange_values()]
    pairs += [(value, None) for value in no_tuples()]
    return [(value, BadFamily, {"place": place}) for value, place in pairs]


def wrong_lot_tuples():
    """What is no tuple of lots of three members, in any order."""
    pairs = [(((3,),), 0), (((1,), (0, 0)), 1), ((0,), 0), (((), (), (1, 0)), 2)]
    pairs += [(((2,), value), 1) for value in strange_values()] + [(value, None) for value in no_tuples()]
    return [(value, BadFamily, {"place": place}) for value, place in pairs]


def wrong_goals():
    """What is no goal of two clauses."""
    pairs = [(((2,),), 0), (((), ()), 1), (((0,), ()), 1), (((), (1, 0)), 1), ((0,), 0), (((), (0,), (0,)), 2),
             (((0,), (True,)), 1), (((), (0,), [1]), 2)]
    pairs += [(((), value), 1) for value in strange_values()] + [(value, None) for value in no_tuples()]
    return [(value, BadGoal, {"number": number}) for value, number in pairs]


def wrong_weights():
    """What are no weights, whatever their number."""
    values = [(), (1,) * 6, (0,), (100,), (3, 2, 0), (3, 100, 1), (3, True, 1), [3, 2, 1], (3, 2, None), (3, (2,), 1),
              (-1, 2, 1), ("3", 2, 1), (3, 2, 10 ** 999)]
    values += no_tuples() + [(3, value, 1) for value in strange_values()]
    return [(value, BadHouse, {"place": "weights"}) for value in values]


def wrong_shares():
    """What are no shares."""
    values = [(), (1, 2), (1, 2, True, True), (0, 1, True), (2, 1, True), (9, 10, True), (10, 10, False), (1, 2, 1),
              (1, 2, 0), (1, 2, None), (True, 2, True), (1, True, True), [1, 2, True], (1, 2, "True"), (-1, 2, True),
              (1, -1, True), (1, 10 ** 999, False), ((1,), 2, True)]
    values += no_tuples() + [(1, 2, value) for value in strange_values() if value is not True and value is not False]
    values += [(value, 2, True) for value in strange_values()] + [(1, value, True) for value in strange_values()]
    return [(value, BadShare, {"value": value}) for value in values]


def wrong_weighings():
    """What are no weighings of three members."""
    values = [(), ((2, 1, 1),), ((2, 1, 1), 2, 2), ((2, 1), 2), ((2, 1, 1, 1), 2), ((2, 1, -1), 2), ((2, 1, 100), 2),
              ((2, 1, 1), -1), ((2, 1, 1), 501), ((2, True, 1), 2), ((2, 1, 1), True), ([2, 1, 1], 2),
              [(2, 1, 1), 2], (2, (2, 1, 1)), ((2, 1, "1"), 2), ((2, 1, 1), None), ((), 2)]
    values += no_tuples() + [((2, value, 1), 2) for value in strange_values()]
    values += [((2, 1, 1), value) for value in strange_values()] + [(value, 2) for value in no_tuples()]
    return [(value, BadPaper, {"word": "weighing"}) for value in values]


def wrong_weighing_papers():
    """What is no paper on whether ((0,), (1, 2)) of three members is weighed."""
    form = [(), ("loads",), ("loads", (2, 1, 1)), ("loads", (2, 1, 1), 2, 2), ("swap", (0,), (1, 2), 0),
            ("swap", (0,), (1, 2), 0, 1, 1), ("swap", (0,), (1, 2)), ("loads", (0,), (1, 2), 0, 1),
            ["loads", (2, 1, 1), 2], ("Loads", (2, 1, 1), 2), ((2, 1, 1), 2)]
    form += no_tuples() + [(value, (2, 1, 1), 2) for value in strange_values()]
    form += [(value, (0,), (1, 2), 0, 1) for value in strange_values()]
    loads = [("loads", (2, 1, 1), 1), ("loads", (2, 1, 1), 3), ("loads", (1, 1, 1), 2), ("loads", (2, 1), 2),
             ("loads", [2, 1, 1], 2), ("loads", (200, 100, 100), 200), ("loads", (2, 1, True), 2)]
    loads += [("loads", value, 2) for value in no_tuples()] + [("loads", (2, 1, 1), v) for v in strange_values()]
    swap = [("swap", (0,), (1, 2), 0, 1), ("swap", 0, 0, 0, 0), ("swap", (0, 3), (1, 2), 0, 1)]
    swap += [("swap", value, (1, 2), 0, 1) for value in no_tuples()]
    swap += [("swap", (0,), value, 0, 1) for value in no_tuples()]
    swap += [("swap", (0,), (1, 2), value, 1) for value in strange_values()]
    swap += [("swap", (0,), (1, 2), 0, value) for value in strange_values()]
    words = [("form", form), ("loads", loads), ("swap", swap)]
    return [(value, BadPaper, {"word": word}) for word, values in words for value in values]


def wrong_houses():
    """Some of what are no houses: test_houses goes through all places."""
    pairs = [(None, None), (list(HOUSE), None), (HOUSE[:4], None), (HOUSE + (0,), None), ((), None),
             (((),) + HOUSE[1:], "weights"), ((HOUSE[0], 4) + HOUSE[2:], "clauses"),
             (HOUSE[:2] + ((),) + HOUSE[3:], "book"), (HOUSE[:3] + ((0, 1),) + HOUSE[4:], "next"),
             (HOUSE[:4] + (10,), "limit"), ((None,) * 5, "weights")]
    pairs += [(value, None) for value in no_tuples()]
    return [(value, BadHouse, {"place": place}) for value, place in pairs]


def wrong_motions():
    """Some of what are no motions of the house: test_motions goes through all kinds."""
    pairs = [((), None), (("put",), None), (("lay",), None), (("close", 1), None), (("amend",), None),
             (("put", ()), "change"), (("put", (2,)), "change"), (("amend", 2), "clause"), (("amend", True), "clause")]
    pairs += [(value, None) for value in no_tuples()] + [((value,), None) for value in strange_values()]
    return [(value, BadMotion, {"place": place}) for value, place in pairs]


WRONG = {
    "many": lambda: all_wrong(BadNumber, "value", [0, 6, -1, (3,), (), 10 ** 20]),
    "member": lambda: all_wrong(BadMember, "value", [3, -1, (0,), (), 99]),
    "lot": lambda: wrong_lots(BadLot, "number", True),
    "text": lambda: wrong_lots(BadText, "number", False),
    "goal": wrong_goals,
    "family": wrong_families,
    "lots": wrong_lot_tuples,
    "weights": wrong_weights,
    "far weights": lambda: wrong_weights() + [((1,) * n, BadHouse, {"place": "weights"}) for n in (1, 2, 4, 5)],
    "share": wrong_shares,
    "weighing": wrong_weighings,
    "weighing paper": wrong_weighing_papers,
    "house": wrong_houses,
    "motion": wrong_motions,
    "kind": lambda: all_wrong(BadName, "name", ["lay", "take", "end", "Put", "pu", 0, (), ("put",)]),
    "any kind": lambda: all_wrong(BadName, "name", ["Put", "putt", "pass", 0, (), ("put",)]),
    "rule": lambda: [(value, BadShare, {"value": value}) for value in strange_values() + [
        0, (), (0,), (0, HALF, 0), (10, HALF), (-1, HALF), (True, HALF), (0, (1, 2, 1)), [0, HALF], (HALF, 0),
        (0, list(HALF)), ("lay", 0, HALF), (0, None), (None, HALF)] if value is not None],
}
for more in (row_arguments, beside_arguments, power_arguments, far_arguments, minute_arguments,
             text_arguments):
    FUNCTIONS.update(more.FUNCTIONS)
    WRONG.update(more.WRONG)


def all_calls():
    """Each function, with its arguments."""
    for module, functions in FUNCTIONS.items():
        for name, arguments in functions.items():
            yield getattr(importlib.import_module("floorpowers." + module), name), arguments


def other_value(value):
    """The same value, made of integers, tuples and strings that aren't plain ones."""
    if isinstance(value, tuple):
        return OtherTuple(other_value(item) for item in value)
    if isinstance(value, bool) or value is None:
        return value
    return OtherStr(value) if isinstance(value, str) else OtherInt(value)


class ArgumentsTest(unittest.TestCase):

    def test_names_and_files(self):
        for module, functions in FUNCTIONS.items():
            for name, arguments in functions.items():
                function = getattr(importlib.import_module("floorpowers." + module), name)
                self.assertTrue(inspect.isfunction(function))
                self.assertEqual(function.__module__, "floorpowers." + module)
                parameters = inspect.signature(function).parameters.values()
                self.assertEqual([each.name for each in parameters], [told[0] for told in arguments], name)
                for each in parameters:
                    self.assertIs(each.default, inspect.Parameter.empty, name)
                    self.assertIs(each.kind, inspect.Parameter.POSITIONAL_OR_KEYWORD, name)

    def test_by_names_in_another_order_and_twice_and_nothing_modified(self):
        for function, arguments in all_calls():
            good = [told[1] for told in arguments]
            before = repr(good)
            answer = function(*good)
            self.assertEqual(function(*good), answer, function)
            named = {told[0]: told[1] for told in reversed(arguments)}
            self.assertEqual(function(**named), answer, function)
            self.assertEqual(repr(good), before, function)

    def test_what_is_told_is_plain(self):
        for function, arguments in all_calls():
            good = [told[1] for told in arguments]
            answer = function(*good)
            self.assertTrue(are_plain(answer), function)
            others = [other_value(value) for value in good]
            other_answer = function(*others)
            self.assertEqual(other_answer, answer, function)
            if function.__name__.startswith("need_"):
                self.assertIs(other_answer, others[-1])
            else:
                self.assertTrue(are_plain(other_answer), function)

    def test_needs_tell_the_last_argument_itself(self):
        for function, arguments in all_calls():
            if function.__name__.startswith("need_"):
                good = [told[1] for told in arguments]
                self.assertIs(function(*good), good[-1], function)

    def test_each_wrong_argument_is_refused(self):
        for function, arguments in all_calls():
            for at, (name, _, told) in enumerate(arguments):
                for wrong, kind, fields in WRONG[told]() if told else []:
                    values = [value for _, value, _ in arguments]
                    values[at] = wrong
                    with self.subTest(function=function.__name__, name=name):
                        before = repr(wrong)
                        check_refused(self, kind, fields, function, *values)
                        check_refused(self, kind, fields, function, **self.named(arguments, values))
                        self.assertEqual(repr(wrong), before)

    def named(self, arguments, values):
        return dict(reversed([(told[0], value) for told, value in zip(arguments, values)]))

    def test_of_several_wrong_arguments_the_first_one(self):
        for function, arguments in all_calls():
            told = [WRONG[kind]() if kind else [] for _, _, kind in arguments]
            for at in range(len(arguments)):
                for wrong, kind, fields in told[at][:3] + told[at][-1:]:
                    values = [value for _, value, _ in arguments[:at]] + [wrong]
                    values += [later[0][0] if later else None for later in told[at + 1:]]
                    with self.subTest(function=function.__name__, name=arguments[at][0]):
                        check_refused(self, kind, fields, function, *values)
                        check_refused(self, kind, fields, function, **self.named(arguments, values))


if __name__ == "__main__":
    unittest.main()

"""Houses: members with weights, clauses, a book of rules, whose turn comes next, and a limit."""

from floorpowers.errors import BadGoal, BadHouse, BadName, BadShare, BadText
from floorpowers.members import are_weights, does_carry, is_share, need_lot_below, need_member_among
from floorpowers.subsets import all_subsets, subset_fault, turned
from floorpowers.values import climb_fault, is_integer_from, is_tuple_of, is_word_of, plain

KINDS = ("put", "amend", "lay", "take", "close", "end")
MOST_CLAUSES = 3
MOST_RANK = 9
MOST_LIMIT = 9


def is_rule(value):
    """Whether any value is a rule of a book."""
    return is_tuple_of(value, 3) and is_word_of(value[0], KINDS) and is_rank_and_share(value[1:])


def is_rank_and_share(value):
    """Whether any value is a pair of a rank and a share."""
    return is_tuple_of(value, 2) and is_integer_from(value[0], 0, MOST_RANK) and is_share(value[1])


def is_book(value):
    """Whether any value is a book: rules with kinds in their order, each at most once, "put" among them."""
    if not isinstance(value, tuple) or not all([is_rule(rule) for rule in value]):
        return False
    kinds = [rule[0] for rule in value]
    return "put" in kinds and kinds == [kind for kind in KINDS if kind in kinds]


def is_next(value, many):
    """Whether any value tells of each of so many members who comes behind it."""
    return is_tuple_of(value, many) and all([is_integer_from(member, 0, many - 1) for member in value])


def house_fault(value):
    """The fault of what is no house: None, or the first part that isn't as told."""
    if not is_tuple_of(value, 5):
        return (None,)
    weights, clauses, book, follow, limit = value
    if not are_weights(weights):
        return ("weights",)
    if not is_integer_from(clauses, 1, MOST_CLAUSES):
        return ("clauses",)
    if not is_book(book):
        return ("book",)
    if not is_next(follow, len(weights)):
        return ("next",)
    if limit is not None and not is_integer_from(limit, 0, MOST_LIMIT):
        return ("limit",)
    return ()


def is_house(value):
    """Whether any value is a house."""
    return house_fault(value) == ()


def need_house(house):
    """The house itself."""
    fault = house_fault(house)
    if fault:
        raise BadHouse(fault[0])
    return house


def member_count(house):
    """How many members a house has."""
    return len(house[0])


def clause_count(house):
    """How many clauses a house has."""
    return int(house[1])


def text_fault(house, value):
    """The fault of what is no text of a house, which is checked."""
    return subset_fault(clause_count(house), value)


def goal_fault(house, value):
    """The fault of what is no goal of a house, which is checked."""
    return climb_fault(value, lambda item: text_fault(house, item) == ())


def need_text_in(house, text):
    """The text itself, of a house that is checked."""
    fault = text_fault(house, text)
    if fault:
        raise BadText(fault[0])
    return text


def need_text(house, text):
    """The text itself."""
    need_house(house)
    return need_text_in(house, text)


def need_goal_in(house, goal):
    """The goal itself, of a house that is checked."""
    fault = goal_fault(house, goal)
    if fault:
        raise BadGoal(fault[0])
    return goal


def need_goal(house, goal):
    """The goal itself."""
    need_house(house)
    return need_goal_in(house, goal)


def need_member(house, member):
    """The member itself."""
    need_house(house)
    return need_member_among(member_count(house), member)


def need_lot_of(house, lot):
    """The lot itself."""
    need_house(house)
    return need_lot_below(member_count(house), lot)


def book_kinds(house):
    """The kinds of a book, in its turn; nothing is checked."""
    told = [rule[0] for rule in house[2]]
    return tuple([kind for kind in KINDS if kind in told])


def kinds_of(house):
    """The kinds of the book, in its turn."""
    return book_kinds(need_house(house))


def need_kind(house, kind):
    """The kind itself, of the book of a house that is checked."""
    if not is_word_of(kind, book_kinds(house)):
        raise BadName(kind)
    return kind


def book_rules(house):
    """For each kind of the book its rank and share, of plain values; nothing is checked."""
    return {kind: (rank, share) for kind, rank, share in plain(house[2])}


def rule_of(house, kind):
    """The rank and the share of a kind."""
    need_house(house)
    return book_rules(house)[need_kind(house, kind)]


def is_carried(house, kind, lot):
    """Whether a lot carries with the share of a kind."""
    need_house(house)
    need_kind(house, kind)
    need_lot_below(member_count(house), lot)
    return does_carry(house[0], book_rules(house)[kind][1], lot)


def all_texts(house):
    """All texts of a house, ascending."""
    need_house(house)
    return all_subsets(clause_count(house))


def turned_text(house, text, change):
    """The text with the clauses of another text turned."""
    need_text(house, text)
    need_text_in(house, change)
    return turned(clause_count(house), text, change)


def house_with(house, kind, rule):
    """The house in whose book the kind has this rank and share, at its place, or without it, if rule is None."""
    need_house(house)
    if not is_word_of(kind, KINDS):
        raise BadName(kind)
    if (kind == "put" or rule is not None) and not is_rank_and_share(rule):
        raise BadShare(rule)
    rules = book_rules(house)
    rules[kind] = plain(rule)
    weights, clauses, _, follow, limit = plain(house)
    book = [(each,) + rules[each] for each in KINDS if rules.get(each) is not None]
    return (weights, clauses, tuple(book), follow, limit)

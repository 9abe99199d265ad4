"""Renamings: members and clauses of a house under other numbers, and texts with clauses turned."""

from floorpowers.acts import need_act, need_acts_in
from floorpowers.errors import BadNumber
from floorpowers.houses import clause_count, member_count, need_goal, need_house, need_lot_of, text_fault
from floorpowers.stands import need_stand
from floorpowers.subsets import turned
from floorpowers.values import is_integer_from, is_tuple_of, plain


def is_order(value, many):
    """Whether any value is a tuple of all integers from 0 on that are less than many, each once, in any order."""
    if not is_tuple_of(value, many) or not all([is_integer_from(item, 0, many - 1) for item in value]):
        return False
    return sorted(value) == list(range(many))


def is_renaming(house, value):
    """Whether any value is a renaming of a house, which is checked."""
    if not is_tuple_of(value, 3):
        return False
    members, clauses, change = value
    if not is_order(members, member_count(house)) or not is_order(clauses, clause_count(house)):
        return False
    return text_fault(house, change) == ()


def need_renaming_in(house, renaming):
    """The renaming itself, of a house that is checked."""
    if not is_renaming(house, renaming):
        raise BadNumber(renaming)
    return renaming


def need_renaming(house, renaming):
    """The renaming itself."""
    need_house(house)
    return need_renaming_in(house, renaming)


def all_renamed(names, numbers):
    """A lot, or clauses, where each number becomes the name that stands at its place."""
    return tuple(sorted([names[number] for number in numbers]))


def text_by(renaming, text):
    """A text renamed."""
    _, clauses, change = renaming
    return turned(len(clauses), all_renamed(clauses, text), change)


def motion_by(renaming, motion):
    """A motion renamed: what it changes has other names, but TURNED is turned in texts alone."""
    clauses = renaming[1]
    if motion[0] == "put":
        return ("put", all_renamed(clauses, motion[1]))
    if motion[0] == "amend":
        return ("amend", clauses[motion[1]])
    return motion


def act_by(renaming, act):
    """An act renamed."""
    if act[0] == "move":
        return ("move", motion_by(renaming, act[1]))
    return act if act[0] == "pass" else ("vote", all_renamed(renaming[0], act[1]))


def stand_by(renaming, stand):
    """A stand renamed."""
    if stand[0] == "over":
        return ("over", text_by(renaming, stand[1]))
    members, clauses, _ = renaming
    _, text, table, pile, is_closed, turn, passes, left = stand
    new_table = None if table is None else all_renamed(clauses, table)
    new_pile = tuple([motion_by(renaming, motion) for motion in pile])
    return ("floor", text_by(renaming, text), new_table, new_pile, is_closed, members[turn], passes, left)


def order_back(order):
    """The order that takes an order back."""
    return tuple([order.index(number) for number in range(len(order))])


def house_by(members, house):
    """A house renamed: only its members have a part in it."""
    weights, clauses, book, follow, limit = house
    olds = order_back(members)
    new_weights = tuple([weights[old] for old in olds])
    new_follow = tuple([members[follow[old]] for old in olds])
    return (new_weights, clauses, book, new_follow, limit)


def house_renamed(house, renaming):
    """The house renamed."""
    need_renaming(house, renaming)
    return house_by(plain(renaming[0]), plain(house))


def lot_renamed(house, lot, renaming):
    """A lot renamed."""
    need_lot_of(house, lot)
    need_renaming_in(house, renaming)
    return all_renamed(plain(renaming[0]), plain(lot))


def goal_renamed(house, goal, renaming):
    """A goal renamed, its texts ascending again."""
    need_goal(house, goal)
    need_renaming_in(house, renaming)
    names = plain(renaming)
    return tuple(sorted([text_by(names, text) for text in plain(goal)]))


def stand_renamed(house, stand, renaming):
    """A stand renamed."""
    need_stand(house, stand)
    need_renaming_in(house, renaming)
    return stand_by(plain(renaming), plain(stand))


def act_renamed(house, act, renaming):
    """An act renamed, in order or not."""
    need_act(house, act)
    need_renaming_in(house, renaming)
    return act_by(plain(renaming), plain(act))


def row_renamed(house, row, renaming):
    """A tuple of acts renamed, in order or not."""
    need_house(house)
    need_acts_in(house, row)
    need_renaming_in(house, renaming)
    names = plain(renaming)
    return tuple([act_by(names, act) for act in plain(row)])


def both_renamings(house, one, other):
    """The renaming that does what one does, and then other."""
    need_renaming(house, one)
    need_renaming_in(house, other)
    members, clauses, change = plain(one)
    then = plain(other)
    new_members = tuple([then[0][member] for member in members])
    new_clauses = tuple([then[1][clause] for clause in clauses])
    return (new_members, new_clauses, text_by(then, change))


def back_renaming(house, renaming):
    """The renaming that takes a renaming back."""
    need_renaming(house, renaming)
    members, clauses, change = plain(renaming)
    return (order_back(members), order_back(clauses), all_renamed(order_back(clauses), change))


def all_orders(many):
    """All orders of the integers from 0 on that are less than many, ascending."""
    orders = [()]
    for _ in range(many):
        orders = [order + (number,) for order in orders for number in range(many) if number not in order]
    return tuple(orders)


def likenesses(house):
    """The members, ascending, by which the house is itself, renamed."""
    need_house(house)
    here = plain(house)
    return tuple([members for members in all_orders(member_count(house)) if house_by(members, here) == here])

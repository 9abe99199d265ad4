"""Halls: houses made ready for going from stand to stand. Nothing is checked here, and all values are plain ones."""

from floorpowers.members import does_carry
from floorpowers.motions import motions_of_kind
from floorpowers.subsets import all_subsets, turned
from floorpowers.values import plain


class Hall:
    """What is asked again and again of a house that is checked."""

    def __init__(self, house):
        weights, clauses, book, follow, _ = plain(house)
        self.weights = weights
        self.many = len(weights)
        self.clauses = clauses
        self.follow = follow
        self.rules = {kind: (rank, share) for kind, rank, share in book}
        self.motions = {kind: motions_of_kind(house, kind) for kind in sorted(self.rules)}


def carries_kind(hall, kind, lot):
    """Whether a lot carries with the share of a kind."""
    return does_carry(hall.weights, hall.rules[kind][1], lot)


def first_carrying(hall, kind):
    """The first lot, ascending, that carries with the share of a kind, None if nobody does.

    The lots (), (0,), (0, 1) and so on are ahead of all others, and the last one of them has all members.
    """
    for size in range(hall.many + 1):
        lot = tuple(range(size))
        if carries_kind(hall, kind, lot):
            return lot
    return None


def is_question(hall, stand):
    """Whether the question is put in a stand."""
    return stand[0] == "floor" and stand[6] == hall.many


def fits_pile(stand, kind):
    """Whether a motion of a kind may come upon what is pending, whatever their ranks; the stand is on the floor."""
    table, pile, is_closed = stand[2:5]
    if kind == "put":
        return not pile
    if kind == "take":
        return not pile and table is not None
    if kind == "amend":
        return bool(pile) and pile[0][0] == "put" and not is_closed
    if kind == "lay":
        return bool(pile) and pile[0][0] == "put"
    if kind == "close":
        return bool(pile) and not is_closed
    return True


def is_above(hall, kind, pile):
    """Whether the rank of a kind is above that of the last pending motion, if there is one."""
    return not pile or hall.rules[kind][0] > hall.rules[pile[-1][0]][0]


def may_be_moved(hall, stand, kind):
    """Whether moving a motion of a kind of the book is in order in a stand."""
    if stand[0] == "over" or is_question(hall, stand) or stand[7] == 0:
        return False
    return fits_pile(stand, kind) and is_above(hall, kind, stand[3])


def moves_in(hall, stand):
    """The moves that are in order, ascending: hall.motions ascend, by their kinds and in each kind."""
    moves = []
    for kind, motions in hall.motions.items():
        if may_be_moved(hall, stand, kind):
            moves.extend([("move", motion) for motion in motions])
    return moves


def acts_in(hall, stand):
    """All acts in order, ascending."""
    if stand[0] == "over":
        return []
    if is_question(hall, stand):
        return [("vote", lot) for lot in all_subsets(hall.many)]
    return moves_in(hall, stand) + [("pass",)]


def is_act_in_order(hall, stand, act):
    """Whether an act is in order."""
    if act[0] == "vote":
        return is_question(hall, stand)
    if act[0] == "move":
        return may_be_moved(hall, stand, act[1][0])
    return stand[0] == "floor" and not is_question(hall, stand)


def behind_move(hall, stand, motion):
    """The stand behind a motion that is moved."""
    text, table, pile, is_closed, turn = stand[1:6]
    left = None if stand[7] is None else stand[7] - 1
    return ("floor", text, table, pile + (motion,), is_closed, hall.follow[turn], 0, left)


def behind_pass(hall, stand):
    """The stand behind a pass."""
    _, text, table, pile, is_closed, turn, passes, left = stand
    if not pile and passes == hall.many - 1:
        return ("over", text)
    return ("floor", text, table, pile, is_closed, hall.follow[turn], passes + 1, left)


def behind_vote(hall, stand, is_carried):
    """The stand behind a vote by which the last pending motion is carried, or isn't."""
    text, table, pile, is_closed, turn = stand[1:6]
    motion = pile[-1]
    rest = pile[:-1]
    if is_carried:
        if motion[0] == "end":
            return ("over", text)
        if motion[0] == "put":
            text = turned(hall.clauses, text, motion[1])
        elif motion[0] == "amend":
            rest = (("put", turned(hall.clauses, rest[0][1], (motion[1],))),) + rest[1:]
        elif motion[0] == "lay":
            table, rest = rest[0][1], ()
        elif motion[0] == "take":
            table, rest = None, (("put", table),)
        else:
            is_closed = True
    return ("floor", text, table, rest, is_closed and rest != (), turn, 0, stand[7])


def behind_act(hall, stand, act):
    """The stand to which an act in order leads."""
    if act[0] == "move":
        return behind_move(hall, stand, act[1])
    if act[0] == "pass":
        return behind_pass(hall, stand)
    return behind_vote(hall, stand, carries_kind(hall, stand[3][-1][0], act[1]))


def steps_in(hall, stand):
    """The pairs of all acts in order, ascending, and the stands behind them."""
    return [(act, behind_act(hall, stand, act)) for act in acts_in(hall, stand)]


def first_steps(hall, stand):
    """Those of steps_in by whose act the stand behind it comes first: only votes may lead where others lead."""
    if not is_question(hall, stand):
        return steps_in(hall, stand)
    lots = [(), first_carrying(hall, stand[3][-1][0])]
    steps = [(("vote", lot), behind_act(hall, stand, ("vote", lot))) for lot in lots if lot is not None]
    return steps[:1] if steps[0][1] == steps[-1][1] else steps

"""What a lot plays for: at each stand who chooses, among which stands, and how soon it can come to some of them.

Arguments are checked ahead of this.
"""

from floorpowers.halls import Hall, is_question
from floorpowers.votes import side_in


class Play:
    """A house of which a lot plays against the others."""

    def __init__(self, house, lot):
        self.hall = Hall(house)
        self.lot = lot
        self.sides = {kind: side_in(self.hall, kind, lot) for kind in self.hall.rules}


def side_at(play, stand):
    """What the lot can make of the vote at a stand where the question is put."""
    return play.sides[stand[3][-1][0]]


def choice_of(play, stand, steps):
    """Whether the lot chooses at a stand, and the stands among which it, or the others, choose; steps are its first.

    Where each can keep a vote down, or bring it up, whoever wants that can see to it, and neither can see to the
    other: so there is one stand alone to choose.
    """
    stands = [behind for _, behind in steps]
    if not is_question(play.hall, stand):
        return (stand[0] == "floor" and stand[5] in play.lot, stands)
    side = side_at(play, stand)
    if side == "down":
        return (True, stands[:1])
    return (True, stands[-1:]) if side == "up" else (side == "decides", stands)


def choices_in(play, steps):
    """For each stand of a web its choice_of."""
    return {stand: choice_of(play, stand, told) for stand, told in steps.items()}


def choosers(choices):
    """For each stand those that have it among the stands to choose from, once for each time."""
    ahead = {stand: [] for stand in choices}
    for stand, (_, behind) in choices.items():
        for each in behind:
            ahead[each].append(stand)
    return ahead


def ranks_to(choices, goals):
    """The ranks of all stands that have one: 0 of goals, then by who chooses one more than the least or the greatest.

    Stands get their ranks in the turn of these: so the least rank behind a stand is told first, the greatest one last.
    """
    ahead = choosers(choices)
    lacking = {stand: 1 if is_mine else len(behind) for stand, (is_mine, behind) in choices.items()}
    ranks = {stand: 0 for stand in goals}
    stands = list(goals)
    at = 0
    while at < len(stands):
        here = stands[at]
        for stand in ahead[here]:
            lacking[stand] -= 1
            if lacking[stand] == 0 and stand not in ranks:
                ranks[stand] = ranks[here] + 1
                stands.append(stand)
        at += 1
    return ranks


def does_choice_hold(is_mine, known):
    """Whether the lot chooses and something holds of one stand behind, or the others do and it holds of all."""
    return any(known) if is_mine else all(known)


def can_others_stay(play, told, steps_at):
    """Whether the others of a lot, from any stand that is told, can keep to these till it is over.

    Where the lot chooses all stands behind have to be told, where the others do one of them.
    """
    for stand in told:
        is_mine, behind = choice_of(play, stand, steps_at(stand))
        known = [each in told for each in behind]
        if stand[0] == "floor" and not does_choice_hold(not is_mine, known):
            return False
    return True

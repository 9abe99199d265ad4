"""Waits: within how many acts a member comes to a move, whatever a lot does, or that the lot keeps it from that."""

from floorpowers.errors import BadMember, BadPaper
from floorpowers.games import Play, can_others_stay, choice_of, choices_in, does_choice_hold, ranks_to
from floorpowers.houses import member_count
from floorpowers.members import need_lot_below, need_member_among
from floorpowers.papers import need_paper_of
from floorpowers.reach import web_steps
from floorpowers.stands import need_stand, stand_fault
from floorpowers.subsets import rest_of
from floorpowers.turns import may_member_move, need_kind_or_none
from floorpowers.values import is_integer_from, is_tuple_of, plain

MOST_WAIT = 3000


class Wait:
    """A member on its way to a kind: the others of a lot help, the lot is against it."""

    def __init__(self, house, lot, member, kind):
        self.play = Play(house, rest_of(member_count(house), lot))
        self.member = member
        self.kind = kind


def is_there(wait, stand):
    """Whether the member may move the kind in a stand."""
    return may_member_move(wait.play.hall, stand, wait.member, wait.kind)


def need_outside(house, lot, member):
    """The member itself, who isn't in a lot that is checked."""
    need_member_among(member_count(house), member)
    if member in lot:
        raise BadMember(member)
    return member


def need_wait(house, stand, lot, member, kind):
    """What is refused of a stand, a lot, a member and a kind, and what is left then."""
    need_stand(house, stand)
    need_lot_below(member_count(house), lot)
    need_outside(house, lot, member)
    need_kind_or_none(house, kind)
    return Wait(house, lot, member, kind)


def waits_in(wait, steps):
    """The waits of the stands of a web that have one."""
    return ranks_to(choices_in(wait.play, steps), [here for here in steps if is_there(wait, here)])


def wait_of(house, stand, lot, member, kind):
    """Within how many acts the member comes to the kind, None if the lot keeps it from it."""
    wait = need_wait(house, stand, lot, member, kind)
    return waits_in(wait, web_steps(house, stand)).get(plain(stand))


def waits_of(house, stand, lot, member, kind):
    """The waits of all stands of the web, in its turn."""
    wait = need_wait(house, stand, lot, member, kind)
    steps = web_steps(house, stand)
    waits = waits_in(wait, steps)
    return tuple([waits.get(here) for here in steps])


def worst_wait(house, stand, member, kind):
    """The wait for the lot of all others."""
    need_stand(house, stand)
    need_member_among(member_count(house), member)
    return wait_of(house, stand, rest_of(member_count(house), (member,)), member, kind)


def waiting_row(house, stand, lot, member, kind):
    """The row of as many acts as the wait tells, each the first behind which it is one less; None if there is none."""
    wait = need_wait(house, stand, lot, member, kind)
    steps = web_steps(house, stand)
    waits = waits_in(wait, steps)
    here = plain(stand)
    if here not in waits:
        return None
    row = []
    while waits[here] > 0:
        act, here = [step for step in steps[here] if waits.get(step[1]) == waits[here] - 1][0]
        row.append(act)
    return tuple(row)


def wait_paper(house, stand, lot, member, kind):
    """A paper on whether the member comes to the kind, or the lot keeps it from it."""
    wait = need_wait(house, stand, lot, member, kind)
    steps = web_steps(house, stand)
    waits = waits_in(wait, steps)
    if plain(stand) in waits:
        return ("comes", tuple([(here, waits[here]) for here in steps if here in waits]))
    return ("kept", tuple([here for here in steps if here not in waits]))


def need_in_web(house, steps, stands):
    """Things, of plain values: stands of the web."""
    if any([stand_fault(house, stand) for stand in stands]):
        raise BadPaper("form")
    told = [plain(stand) for stand in stands]
    if not all([stand in steps for stand in told]):
        raise BadPaper("form")
    return told


def need_web_stands(house, steps, stands):
    """Things as the keys of a dict: unlike stands of the web."""
    told = {stand: True for stand in need_in_web(house, steps, stands)}
    if len(told) < len(stands):
        raise BadPaper("form")
    return told


def need_numbers(house, steps, pairs):
    """For each stand of the web that is told in pairs, once each, its number."""
    if not all([is_tuple_of(pair, 2) and is_integer_from(pair[1], 0, MOST_WAIT) for pair in pairs]):
        raise BadPaper("form")
    need_web_stands(house, steps, [pair[0] for pair in pairs])
    return {plain(stand): number for stand, number in pairs}


def is_wait_right(wait, steps, told, stand):
    """Whether the number of a stand is right: 0 where the member may move, else by stands with lesser ones."""
    number = told[stand]
    if number == 0:
        return is_there(wait, stand)
    if stand[0] == "over":
        return False
    is_mine, behind = choice_of(wait.play, stand, steps[stand])
    known = [each in told and told[each] < number for each in behind]
    return does_choice_hold(is_mine, known)


def check_wait(house, stand, lot, member, kind, paper):
    """The word of a paper that shows that the member comes to the kind, or that the lot keeps it from it."""
    wait = need_wait(house, stand, lot, member, kind)
    steps = web_steps(house, stand)
    word, things = need_paper_of(("comes", "kept"), paper)
    if word == "comes":
        told = need_numbers(house, steps, things)
        does_hold = all([is_wait_right(wait, steps, told, here) for here in told])
    else:
        told = need_web_stands(house, steps, things)
        is_anywhere = any([is_there(wait, here) for here in told])
        does_hold = not is_anywhere and can_others_stay(wait.play, told, lambda here: steps[here])
    if not does_hold or plain(stand) not in told:
        raise BadPaper(str(word))
    return str(word)

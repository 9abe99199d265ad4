"""Plans: what a lot chooses to force a goal, papers on what it can force or not, and rows in which it is led so."""

from floorpowers.acts import is_act
from floorpowers.errors import BadNumber, BadPaper, BadStand
from floorpowers.games import Play, can_others_stay, choice_of, choices_in, ranks_to, side_at
from floorpowers.halls import acts_in, behind_act, first_steps, is_act_in_order, is_question
from floorpowers.papers import need_paper_of, stands_told
from floorpowers.powers import goal_ends, need_powers
from floorpowers.reach import web_steps
from floorpowers.rows import need_way_in
from floorpowers.stands import need_stand_in, stand_fault
from floorpowers.subsets import rest_of
from floorpowers.values import is_integer_from, is_natural, is_tuple_of, plain

MOST_RANK = 100000
MOST_DRAWS = 60


def vote_choice(play, stand, ranks, steps):
    """What the lot does in a vote: True if all of it say yes, False if none does, None where it has no choice."""
    side = side_at(play, stand)
    if side == "others":
        return None
    if side != "decides":
        return side == "up"
    down = ranks.get(steps[0][1])
    up = ranks.get(steps[-1][1])
    return down is None or (up is not None and up <= down)


def choice_by(play, stand, ranks, steps):
    """What the lot chooses at a stand, None where it has no choice; steps are the first ones of the stand."""
    rank = ranks.get(stand)
    if rank is None or rank == 0:
        return None
    if is_question(play.hall, stand):
        return vote_choice(play, stand, ranks, steps)
    if stand[5] not in play.lot:
        return None
    return [act for act, behind in steps if ranks.get(behind) == rank - 1][0]


def plan_in(play, steps, ranks, first):
    """The plan by the ranks of the stands of a web, () if the first one has none."""
    if first not in ranks:
        return ()
    return tuple([(here, ranks[here], choice_by(play, here, ranks, told)) for here, told in steps.items()
                  if here in ranks])


def plan_for(house, stand, lot, goal):
    """The plan of a lot that is checked."""
    play = Play(house, plain(lot))
    steps = web_steps(house, stand)
    ranks = ranks_to(choices_in(play, steps), goal_ends(steps, goal))
    return plan_in(play, steps, ranks, plain(stand))


def plan_of(house, stand, lot, goal):
    """The stands with ranks, in the web's turn, with their ranks and what the lot chooses; () if the first has none."""
    need_powers(house, stand, lot, goal)
    return plan_for(house, stand, lot, goal)


def choice_at(house, stand, lot, goal, other):
    """What a lot chooses at another stand of the web, None where it has no choice."""
    need_powers(house, stand, lot, goal)
    need_stand_in(house, other)
    play = Play(house, plain(lot))
    steps = web_steps(house, stand)
    here = plain(other)
    if here not in steps:
        raise BadStand("web")
    ranks = ranks_to(choices_in(play, steps), goal_ends(steps, goal))
    return choice_by(play, here, ranks, steps[here])


def paper_in(play, steps, choices, goal, first):
    """A paper on what a lot can force: its plan, or all stands without a rank."""
    ranks = ranks_to(choices, goal_ends(steps, goal))
    if first in ranks:
        return ("force", plan_in(play, steps, ranks, first))
    return ("bar", tuple([here for here in steps if here not in ranks]))


def power_paper(house, stand, lot, goal):
    """A paper on whether a lot can force a goal, or its others bar it."""
    need_powers(house, stand, lot, goal)
    play = Play(house, plain(lot))
    steps = web_steps(house, stand)
    return paper_in(play, steps, choices_in(play, steps), goal, plain(stand))


def ranked_told(house, rows):
    """The stands, with ranks and choices, of a tuple of anything, None if they aren't unlike, or ranks aren't any."""
    for row in rows:
        if not is_tuple_of(row, 3) or stand_fault(house, row[0]) or not is_integer_from(row[1], 0, MOST_RANK):
            return None
    told = {plain(stand): (rank, choice) for stand, rank, choice in rows}
    return told if len(told) == len(rows) else None


def coming_by(house, play, stand, choice):
    """The stands that can come, the lot doing as any value says that may tell its choice; None if it can't tell it."""
    is_mine, behind = choice_of(play, stand, first_steps(play.hall, stand))
    if not is_mine:
        return behind if choice is None else None
    if not is_question(play.hall, stand):
        if not is_act(house, choice) or not is_act_in_order(play.hall, stand, choice):
            return None
        return [behind_act(play.hall, stand, plain(choice))]
    if not isinstance(choice, bool) or (side_at(play, stand) != "decides" and choice != vote_bound(play, stand)):
        return None
    return behind[-1:] if choice else behind[:1]


def vote_bound(play, stand):
    """What the lot does in a vote that each side can bring up, or keep down."""
    return side_at(play, stand) == "up"


def is_rank_right(house, play, goal, told, stand):
    """Whether a stand that is told has a right rank and choice."""
    rank, choice = told[stand]
    if stand[0] == "over":
        return rank == 0 and stand[1] in goal and choice is None
    coming = coming_by(house, play, stand, choice)
    return coming is not None and all([behind in told and told[behind][0] < rank for behind in coming])


def does_force(house, play, first, goal, rows):
    """Whether a tuple of anything shows that a lot can force a goal."""
    told = ranked_told(house, rows)
    if told is None or first not in told:
        return False
    return all([is_rank_right(house, play, goal, told, stand) for stand in told])


def does_bar(house, play, first, goal, stands):
    """Whether a tuple of anything shows that the others of a lot can bar a goal."""
    told = stands_told(house, stands)
    if told is None or first not in told or goal_ends(told, goal):
        return False
    return can_others_stay(play, told, lambda stand: first_steps(play.hall, stand))


def check_power(house, stand, lot, goal, paper):
    """The word of a paper that shows that a lot can force a goal, or that its others can bar it."""
    need_powers(house, stand, lot, goal)
    word, told = need_paper_of(("force", "bar"), paper)
    play = Play(house, plain(lot))
    if word == "force":
        does_hold = does_force(house, play, plain(stand), goal, told)
    else:
        does_hold = does_bar(house, play, plain(stand), goal, told)
    if not does_hold:
        raise BadPaper(str(word))
    return str(word)


def plan_choices(house, stand, lot, goal):
    """What the lot chooses at the stands of its plan."""
    return {here: choice for here, _, choice in plan_for(house, stand, lot, goal)}


def is_act_led(lot, choice, act):
    """Whether an act is as the lot chooses, who perhaps has no choice."""
    if isinstance(choice, bool):
        return all([(member in act[1]) == choice for member in lot])
    return choice is None or act == choice


def is_led(house, stand, lot, goal, row):
    """Whether a row is led by a lot and a goal."""
    need_powers(house, stand, lot, goal)
    way = need_way_in(house, stand, row)
    choices = plan_choices(house, stand, lot, goal)
    return all([is_act_led(lot, choices.get(here), act) for here, act in zip(way, plain(row))])


def need_draws(draws):
    """The draws themselves: a tuple of few integers from 0 on."""
    if not isinstance(draws, tuple) or len(draws) > MOST_DRAWS:
        raise BadNumber(None)
    for number, draw in enumerate(draws):
        if not is_natural(draw):
            raise BadNumber(number)
    return draws


def act_drawn(play, stand, choice, draw):
    """The act that the lot chooses, or that a draw tells, or of a vote what it tells of the others."""
    if isinstance(choice, bool):
        others = [other for place, other in enumerate(rest_of(play.hall.many, play.lot)) if draw >> place & 1]
        return ("vote", tuple(sorted(others + list(play.lot if choice else ()))))
    if choice is not None:
        return choice
    acts = acts_in(play.hall, stand)
    return acts[draw % len(acts)]


def led_row(house, stand, lot, goal, draws):
    """The row in which the lot does as it chooses, and draws tell all else."""
    need_powers(house, stand, lot, goal)
    need_draws(draws)
    play = Play(house, plain(lot))
    choices = plan_choices(house, stand, lot, goal)
    here = plain(stand)
    row = []
    for draw in draws:
        if here[0] == "over":
            break
        act = act_drawn(play, here, choices.get(here), int(draw))
        here = behind_act(play.hall, here, act)
        row.append(act)
    return tuple(row)

"""Webs: all stands that can be reached from one, least rows to them, and papers on whether a stand is among them."""

from floorpowers.errors import BadPaper
from floorpowers.halls import Hall, steps_in
from floorpowers.papers import is_shut, need_paper_of, way_to
from floorpowers.reach import is_any_let, row_by, ways_from, web_steps
from floorpowers.rows import need_way_in
from floorpowers.stands import need_stand, need_stand_in
from floorpowers.values import plain


def steps_of(house, stand):
    """The pairs of all acts in order, ascending, and the stands behind them."""
    need_stand(house, stand)
    return tuple(steps_in(Hall(house), plain(stand)))


def web_of(house, stand):
    """The stands of the web, in their turn."""
    need_stand(house, stand)
    return tuple(web_steps(house, stand))


def ways_for(house, stand, goal):
    """The ways to all stands of the web, behind what is refused of the arguments."""
    need_stand(house, stand)
    need_stand_in(house, goal)
    return ways_from(web_steps(house, stand), plain(stand), is_any_let)


def row_to(house, stand, goal):
    """The least row to a stand, None if it isn't in the web."""
    return row_by(ways_for(house, stand, goal), plain(goal))


def rows_compared(house, stand, row, other):
    """-1, 0 or 1, as a row is lesser, they are the same, or the other one is lesser."""
    need_stand(house, stand)
    need_way_in(house, stand, row)
    need_way_in(house, stand, other)
    key = (len(row), row)
    other_key = (len(other), other)
    if key == other_key:
        return 0
    return -1 if key < other_key else 1


def web_paper(house, stand, goal):
    """A paper on whether a stand is in the web."""
    ways = ways_for(house, stand, goal)
    row = row_by(ways, plain(goal))
    return ("closed", tuple(ways)) if row is None else ("row", row)


def check_web(house, stand, goal, paper):
    """Whether a paper shows that a stand is in the web: True of "row", False of "closed"."""
    need_stand(house, stand)
    need_stand_in(house, goal)
    word, told = need_paper_of(("row", "closed"), paper)
    here = plain(stand)
    asked = plain(goal)
    if word == "row":
        does_hold = way_to(house, here, told, asked) is not None
    else:
        does_hold = is_shut(house, here, told, (asked,), is_any_let)
    if not does_hold:
        raise BadPaper(str(word))
    return word == "row"

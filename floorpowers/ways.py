"""Ways to texts: which texts come, also without some kinds, and the stands that no row to a text goes round."""

from floorpowers.errors import BadMotion, BadPaper, BadText
from floorpowers.halls import Hall, steps_in
from floorpowers.houses import KINDS, need_text_in
from floorpowers.papers import is_shut, need_paper_of, way_to
from floorpowers.reach import chain_on, is_any_let, leading_to, row_by, ways_from, web_steps
from floorpowers.rows import way_in_order
from floorpowers.stands import need_stand, need_stand_in
from floorpowers.values import climb_fault, is_word_of, plain


def need_kinds(kinds):
    """The kinds themselves: some of the six, in a book or not, each once, in their order."""
    if not isinstance(kinds, tuple):
        raise BadMotion(None)
    places = tuple([KINDS.index(kind) if is_word_of(kind, KINDS) else None for kind in kinds])
    fault = climb_fault(places, lambda place: place is not None)
    if fault:
        raise BadMotion(fault[0])
    return kinds


def let_without(kinds):
    """What tells whether a step is let: it moves no motion of these kinds."""
    return lambda act, behind: act[0] != "move" or act[1][0] not in kinds


def let_round(stand):
    """What tells whether a step is let: it doesn't lead to a stand."""
    return lambda act, behind: behind != stand


def over_with(text):
    """The stand that is over with a text."""
    return ("over", plain(text))


def texts_from(house, stand, kinds):
    """The texts, ascending, that come without these kinds."""
    need_stand(house, stand)
    need_kinds(kinds)
    ways = ways_from(web_steps(house, stand), plain(stand), let_without(kinds))
    return tuple(sorted([here[1] for here in ways if here[0] == "over"]))


def ways_without(house, stand, text, kinds):
    """The stands that come without these kinds, as ways_from tells them."""
    need_stand(house, stand)
    need_text_in(house, text)
    need_kinds(kinds)
    return ways_from(web_steps(house, stand), plain(stand), let_without(kinds))


def row_to_text(house, stand, text, kinds):
    """The least row to a text without these kinds, None if there is none."""
    return row_by(ways_without(house, stand, text, kinds), over_with(text))


def text_paper(house, stand, text, kinds):
    """A paper on whether a text comes without these kinds."""
    ways = ways_without(house, stand, text, kinds)
    row = row_by(ways, over_with(text))
    return ("closed", tuple(ways)) if row is None else ("row", row)


def is_row_without(house, stand, row, text, kinds):
    """Whether a tuple of anything is a row that comes to a text, in which no motion of these kinds is moved."""
    if way_to(house, stand, row, over_with(text)) is None:
        return False
    return not any([act[0] == "move" and act[1][0] in kinds for act in row])


def check_text(house, stand, text, kinds, paper):
    """Whether a paper shows that a text comes without these kinds: True of "row", False of "closed"."""
    need_stand(house, stand)
    need_text_in(house, text)
    need_kinds(kinds)
    word, told = need_paper_of(("row", "closed"), paper)
    here = plain(stand)
    if word == "row":
        does_hold = is_row_without(house, here, told, text, kinds)
    else:
        does_hold = is_shut(house, here, told, (over_with(text),), let_without(kinds))
    if not does_hold:
        raise BadPaper(str(word))
    return word == "row"


def keeping_acts(house, stand, text):
    """The acts in order, ascending, behind which a text still comes."""
    need_stand(house, stand)
    need_text_in(house, text)
    steps = web_steps(house, stand)
    if over_with(text) not in steps:
        return ()
    keeping = leading_to(steps, over_with(text))
    return tuple([act for act, behind in steps_in(Hall(house), plain(stand)) if behind in keeping])


def narrows(house, stand, text):
    """The chain of the stands that each row to a text has on its way, () for a text that doesn't come."""
    need_stand(house, stand)
    need_text_in(house, text)
    steps = web_steps(house, stand)
    row = row_by(ways_from(steps, plain(stand), is_any_let), over_with(text))
    return () if row is None else chain_on(steps, way_in_order(house, stand, row))


def ways_round(house, stand, text, goal):
    """The stands that come without a stand on the way, as ways_from tells them, for a text that comes."""
    need_stand(house, stand)
    need_text_in(house, text)
    need_stand_in(house, goal)
    steps = web_steps(house, stand)
    if over_with(text) not in steps:
        raise BadText("none")
    first = plain(stand)
    return {} if first == goal else ways_from(steps, first, let_round(goal))


def is_narrow(house, stand, text, goal):
    """Whether each row to a text that comes has a stand on its way."""
    ways = ways_round(house, stand, text, goal)
    return over_with(text) not in ways


def narrow_paper(house, stand, text, goal):
    """A paper on whether each row to a text that comes has a stand on its way."""
    ways = ways_round(house, stand, text, goal)
    row = row_by(ways, over_with(text))
    return ("shut", tuple(ways)) if row is None else ("round", row)


def does_go_round(house, stand, row, text, goal):
    """Whether a tuple of anything is a row that comes to a text without a stand on its way."""
    way = way_to(house, stand, row, over_with(text))
    return way is not None and goal not in way


def does_shut(house, stand, stands, text, goal):
    """Whether a tuple of anything shows that no row from stand comes to a text without goal on its way."""
    if stand == goal:
        return len(stands) == 0
    return is_shut(house, stand, stands, (goal, over_with(text)), let_round(goal))


def check_narrow(house, stand, text, goal, paper):
    """Whether a paper shows that a stand is on all ways to a text that comes: True of "shut", False of "round"."""
    ways_round(house, stand, text, goal)
    word, told = need_paper_of(("round", "shut"), paper)
    here = plain(stand)
    asked = plain(goal)
    if word == "round":
        does_hold = does_go_round(house, here, told, text, asked)
    else:
        does_hold = does_shut(house, here, told, text, asked)
    if not does_hold:
        raise BadPaper(str(word))
    return word == "shut"

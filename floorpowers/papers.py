"""What papers have in common: their form, rows that come somewhere, and lots of stands that aren't left."""

from floorpowers.errors import BadPaper
from floorpowers.halls import Hall, first_steps
from floorpowers.rows import way_in_order
from floorpowers.stands import stand_fault
from floorpowers.values import is_tuple_of, is_word_of, plain


def need_worded(words, paper):
    """The paper itself: a pair of one of some words and of anything."""
    if not is_tuple_of(paper, 2) or not is_word_of(paper[0], words):
        raise BadPaper("form")
    return paper


def need_paper_of(words, paper):
    """The paper itself: a pair of one of some words and a tuple."""
    if not isinstance(need_worded(words, paper)[1], tuple):
        raise BadPaper("form")
    return paper


def way_to(house, stand, row, goal):
    """The stands on the way of a tuple of anything that is a row in order and comes to goal, None of any other."""
    way = way_in_order(house, stand, row)
    return way if len(way) == len(row) + 1 and way[-1] == goal else None


def stands_told(house, stands):
    """The stands of a tuple of anything as the keys of a dict, None if they aren't unlike stands of the house."""
    if any([stand_fault(house, stand) for stand in stands]):
        return None
    told = {stand: True for stand in plain(stands)}
    return told if len(told) == len(stands) else None


def is_shut(house, stand, stands, lacking, is_let):
    """Whether a tuple of anything has unlike stands, this one among them, that no step that is let leaves.

    Those that have to be lacking are no stands of it.
    """
    told = stands_told(house, stands)
    if told is None or stand not in told or any([each in told for each in lacking]):
        return False
    hall = Hall(house)
    return all([is_kept_in(told, first_steps(hall, here), is_let) for here in told])


def is_kept_in(stands, steps, is_let):
    """Whether all steps that are let lead to one of these stands."""
    return all([behind in stands for act, behind in steps if is_let(act, behind)])

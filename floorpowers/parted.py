"""Rows that part two places, rows that go beyond one, and papers on that."""

from floorpowers.errors import BadPaper
from floorpowers.pairs import (Halls, common_steps, does_let_all, is_over_alone, is_seen_alike, is_stand_pair,
                               lacking_act, need_places, pair_of, pair_steps)
from floorpowers.papers import need_worded
from floorpowers.reach import MOST_STANDS, is_any_let, row_by, ways_from
from floorpowers.rows import way_in_order
from floorpowers.values import plain


def row_parting(halls, steps, first):
    """The shortest row, of these the least, behind which unlike things are seen; None if there is none."""
    for pair in steps:
        if not is_seen_alike(halls, pair):
            return row_by(ways_from(steps, first, is_any_let), pair)
    return None


def parting_row(house, stand, far_house, far_stand):
    """The shortest row, of these the least, that parts two places; None if they are alike."""
    need_places(house, stand, far_house, far_stand)
    halls = Halls(house, far_house)
    first = pair_of(stand, far_stand)
    return row_parting(halls, pair_steps(halls, first), first)


def alike_paper(house, stand, far_house, far_stand):
    """A paper on whether two places are alike."""
    need_places(house, stand, far_house, far_stand)
    halls = Halls(house, far_house)
    first = pair_of(stand, far_stand)
    steps = pair_steps(halls, first)
    row = row_parting(halls, steps, first)
    return ("alike", tuple(steps)) if row is None else ("parted", row)


def pairs_told(house, far_house, pairs):
    """The pairs of any value as the keys of a dict, None if it is no tuple of few unlike pairs of stands."""
    if not isinstance(pairs, tuple) or len(pairs) > MOST_STANDS:
        return None
    if not all([is_stand_pair(house, far_house, pair) for pair in pairs]):
        return None
    told = {pair: True for pair in plain(pairs)}
    return told if len(told) == len(pairs) else None


def is_let_on(halls, told, pair):
    """Whether all acts in order in both stands of a pair lead to one of the pairs that are told."""
    return all([behind in told for _, behind in common_steps(halls, pair)])


def do_pairs_hold(house, first, far_house, pairs, is_right):
    """Whether any value is a tuple of pairs with the first one, each right, from which acts in order lead to others."""
    told = pairs_told(house, far_house, pairs)
    if told is None or first not in told:
        return False
    halls = Halls(house, far_house)
    return all([is_right(halls, pair) and is_let_on(halls, told, pair) for pair in told])


def ways_of_both(house, first, far_house, row):
    """The two ways of any value that is a row, as far as it is in order from each stand of a pair; None of no tuple."""
    if not isinstance(row, tuple):
        return None
    return (way_in_order(house, first[0], row), way_in_order(far_house, first[1], row))


def does_part(house, first, far_house, row):
    """Whether any value is a row that parts two places."""
    ways = ways_of_both(house, first, far_house, row)
    if ways is None or len(ways[0]) <= len(row) or len(ways[1]) <= len(row):
        return False
    return not is_seen_alike(Halls(house, far_house), (ways[0][-1], ways[1][-1]))


def check_alike_places(house, stand, far_house, far_stand, paper):
    """The word of a paper that shows that two places are alike, or parted."""
    need_places(house, stand, far_house, far_stand)
    word, told = need_worded(("alike", "parted"), paper)
    first = pair_of(stand, far_stand)
    if word == "alike":
        does_hold = do_pairs_hold(house, first, far_house, told, is_seen_alike)
    else:
        does_hold = does_part(house, first, far_house, told)
    if not does_hold:
        raise BadPaper(str(word))
    return str(word)


def rows_beyond(halls, steps, first):
    """Of each pair the least row that goes beyond by it, if there is one, with how many acts it has."""
    ways = ways_from(steps, first, is_any_let)
    rows = []
    for pair in steps:
        act = lacking_act(halls, pair)
        if is_over_alone(pair):
            rows.append(row_by(ways, pair))
        elif act is not None:
            rows.append(row_by(ways, pair) + (act,))
    return [(len(row), row) for row in rows]


def row_going_beyond(halls, steps, first):
    """The shortest row, of these the least, that goes beyond; None if there is none."""
    rows = rows_beyond(halls, steps, first)
    return min(rows)[1] if rows else None


def row_beyond(house, stand, far_house, far_stand):
    """The shortest row, of these the least, that goes beyond the other place; None if the first one lets no more."""
    need_places(house, stand, far_house, far_stand)
    halls = Halls(house, far_house)
    first = pair_of(stand, far_stand)
    return row_going_beyond(halls, pair_steps(halls, first), first)


def cover_paper(house, stand, far_house, far_stand):
    """A paper on whether the first place lets no more than the other one."""
    need_places(house, stand, far_house, far_stand)
    halls = Halls(house, far_house)
    first = pair_of(stand, far_stand)
    steps = pair_steps(halls, first)
    row = row_going_beyond(halls, steps, first)
    return ("cover", tuple(steps)) if row is None else ("beyond", row)


def does_go_beyond(house, first, far_house, row):
    """Whether any value is a row that goes beyond the other place."""
    ways = ways_of_both(house, first, far_house, row)
    if ways is None or len(ways[0]) <= len(row):
        return False
    if len(ways[1]) == len(row):
        return True
    return len(ways[1]) == len(row) + 1 and is_over_alone((ways[0][-1], ways[1][-1]))


def check_cover(house, stand, far_house, far_stand, paper):
    """The word of a paper that shows that the first place lets no more, or that some row goes beyond."""
    need_places(house, stand, far_house, far_stand)
    word, told = need_worded(("cover", "beyond"), paper)
    first = pair_of(stand, far_stand)
    if word == "cover":
        does_hold = do_pairs_hold(house, first, far_house, told, does_let_all)
    else:
        does_hold = does_go_beyond(house, first, far_house, told)
    if not does_hold:
        raise BadPaper(str(word))
    return str(word)

"""Motions: what may be moved in a house, and their ranks."""

from floorpowers.errors import BadMotion
from floorpowers.houses import book_kinds, book_rules, clause_count, need_house, text_fault
from floorpowers.subsets import all_subsets
from floorpowers.values import is_integer_from, is_tuple_of, is_word_of


def has_motion_form(house, value):
    """Whether a value is a tuple with a kind of the book first and as many things as it has."""
    if not isinstance(value, tuple) or not value or not is_word_of(value[0], book_kinds(house)):
        return False
    return is_tuple_of(value, 2 if value[0] in ("put", "amend") else 1)


def motion_fault(house, value):
    """The fault of what is no motion of a house, which is checked."""
    if not has_motion_form(house, value):
        return (None,)
    kind = value[0]
    if kind == "put" and (text_fault(house, value[1]) or not value[1]):
        return ("change",)
    if kind == "amend" and not is_integer_from(value[1], 0, clause_count(house) - 1):
        return ("clause",)
    return ()


def need_motion_in(house, motion):
    """The motion itself, of a house that is checked."""
    fault = motion_fault(house, motion)
    if fault:
        raise BadMotion(fault[0])
    return motion


def need_motion(house, motion):
    """The motion itself."""
    need_house(house)
    return need_motion_in(house, motion)


def motions_of_kind(house, kind):
    """All motions of a kind; nothing is checked."""
    if kind == "put":
        return [(kind, change) for change in all_subsets(clause_count(house)) if change]
    if kind == "amend":
        return [(kind, clause) for clause in range(clause_count(house))]
    return [(kind,)]


def all_motions(house):
    """All motions of a house, ascending."""
    need_house(house)
    return tuple(sorted([motion for kind in book_kinds(house) for motion in motions_of_kind(house, kind)]))


def motion_rank(house, motion):
    """The rank of a motion."""
    need_motion(house, motion)
    return book_rules(house)[motion[0]][0]

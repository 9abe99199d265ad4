"""What of a book a place has no need of: idle kinds, ranks that aren't asked, shares that don't matter."""

from floorpowers.halls import Hall, fits_pile, is_above, is_question, may_be_moved
from floorpowers.houses import book_kinds, book_rules, house_with, need_house, need_kind
from floorpowers.members import carrying_family
from floorpowers.pairs import Halls, are_all_alike
from floorpowers.reach import web_steps
from floorpowers.stands import need_stand
from floorpowers.values import plain
from floorpowers.weighings import all_shares


def moved_kinds(house, stand):
    """The kinds of the book, in its turn, of which a motion is in order in some stand of the web."""
    hall = Hall(house)
    stands = list(web_steps(house, stand))
    return tuple([kind for kind in book_kinds(house) if any([may_be_moved(hall, here, kind) for here in stands])])


def kinds_moved(house, stand):
    """The kinds of the book, in its turn, that aren't idle."""
    need_stand(house, stand)
    return moved_kinds(house, stand)


def kinds_asked(hall, stand):
    """The kinds that are asked beside that of the last pending motion."""
    if stand[0] == "over" or not stand[3] or is_question(hall, stand) or stand[7] == 0:
        return []
    last = stand[3][-1][0]
    return [kind for kind in hall.rules if kind != last and fits_pile(stand, kind)]


def asked_in(house, stand):
    """What is asked of ranks at a place, as the keys of a dict."""
    hall = Hall(house)
    asked = {}
    for here in web_steps(house, stand):
        for kind in kinds_asked(hall, here):
            asked[here[3][-1][0], kind, is_above(hall, kind, here[3])] = True
    first = plain(stand)
    pile = first[3] if first[0] == "floor" else ()
    for below, above in zip(pile, pile[1:]):
        asked[below[0], above[0], True] = True
    return asked


def asked_ranks(house, stand):
    """What is asked of ranks at a place: triples of two kinds and whether the second one's is above, ascending."""
    need_stand(house, stand)
    return tuple(sorted(asked_in(house, stand)))


def lowest_ranks(house, stand):
    """For each kind of the book the least rank by which all that is asked stays.

    A rank is put up only where some rank that is too low as well asks for it: so none comes to be higher than needed.
    """
    ranks = {kind: 0 for kind in book_kinds(house)}
    asked = list(asked_in(house, stand))
    is_changed = True
    while is_changed:
        is_changed = False
        for one, other, is_higher in asked:
            low, high = (one, other) if is_higher else (other, one)
            least = ranks[low] + 1 if is_higher else ranks[low]
            if ranks[high] < least:
                ranks[high] = least
                is_changed = True
    return ranks


def least_ranks(house, stand):
    """The least ranks of the kinds of the book, in its turn, by which the place is alike."""
    need_stand(house, stand)
    return tuple(list(lowest_ranks(house, stand).values()))


def kind_families(house, kind):
    """For each share, ascending, the family of the lots that carry with it, and that of the share of a kind."""
    weights = plain(house[0])
    families = {share: carrying_family(weights, share) for share in all_shares()}
    return families, families[book_rules(house)[kind][1]]


def going_for(house, kind):
    """All shares, ascending, that go for that of a kind."""
    families, own = kind_families(house, kind)
    return tuple([share for share, family in families.items() if family == own])


def shares_for(house, kind):
    """All shares, ascending, that go for that of a kind."""
    need_house(house)
    need_kind(house, kind)
    return going_for(house, kind)


def unlike_shares(house, kind):
    """One share for each family of lots that carry with some share, but with that of a kind."""
    families, own = kind_families(house, kind)
    firsts = {}
    for share, family in families.items():
        if family != own:
            firsts.setdefault(family, share)
    return list(firsts.values())


def does_matter(house, stand, kind):
    """Whether with some other share of a kind the place isn't alike.

    All shares are gone through, also behind one that matters: with each the pairs may be too many.
    """
    need_stand(house, stand)
    need_kind(house, kind)
    web_steps(house, stand)
    here = plain(stand)
    rank = book_rules(house)[kind][0]
    others = [house_with(house, kind, (rank, share)) for share in unlike_shares(house, kind)]
    return not all([are_all_alike(Halls(house, other), (here, here)) for other in others])


def without_idle(house, stand):
    """The house without the kinds that are idle and not pending; "put" stays."""
    pile = stand[3] if stand[0] == "floor" else ()
    kept = ("put",) + moved_kinds(house, stand) + tuple([motion[0] for motion in pile])
    left = house
    for kind in book_kinds(house):
        if kind not in kept:
            left = house_with(left, kind, None)
    return left


def least_book(house, stand):
    """The least book by which the place is alike: without idle kinds, with the least ranks and the least shares."""
    need_stand(house, stand)
    left = without_idle(house, stand)
    ranks = lowest_ranks(left, stand)
    return tuple([(kind, rank, going_for(left, kind)[0]) for kind, rank in ranks.items()])

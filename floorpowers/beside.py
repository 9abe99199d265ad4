"""Houses beside one another: what is seen at a place, and whether two places let the same, or one of them no more."""

from floorpowers.halls import Hall, is_question
from floorpowers.members import carrying_family
from floorpowers.pairs import Halls, are_all_alike, does_let_all, need_places, pair_of, pair_steps, seen_in
from floorpowers.reach import web_steps
from floorpowers.stands import need_stand
from floorpowers.values import plain


def seen_at(house, stand):
    """What is seen at a place: that it is over, with its text, or all acts in order."""
    need_stand(house, stand)
    return seen_in(Hall(house), plain(stand))


def are_alike_places(house, stand, far_house, far_stand):
    """Whether the same rows are in order from two places, and behind each of them the same is seen."""
    need_places(house, stand, far_house, far_stand)
    return are_all_alike(Halls(house, far_house), pair_of(stand, far_stand))


def lets_no_more(house, stand, far_house, far_stand):
    """Whether each row in order from the first place is so from the other one, and over is over with the same text."""
    need_places(house, stand, far_house, far_stand)
    halls = Halls(house, far_house)
    return all([does_let_all(halls, pair) for pair in pair_steps(halls, pair_of(stand, far_stand))])


def numbered(keys):
    """For each thing a number that those with the same key have in common."""
    numbers = {}
    for key in keys.values():
        numbers.setdefault(key, len(numbers))
    return {thing: numbers[key] for thing, key in keys.items()}


def looks_behind(hall, looks, stand, told):
    """The looks of the stands behind all acts of a stand, such that unlike ones differ; told are its first steps.

    Of votes those behind one that isn't carried and one that is tell all, with the lots that carry.
    """
    behind = tuple([looks[each] for _, each in told])
    if not is_question(hall, stand):
        return behind
    if behind[0] == behind[-1]:
        return behind[:1]
    return behind + (carrying_family(hall.weights, hall.rules[stand[3][-1][0]][1]),)


def look_count(house, stand):
    """How many stands of the web are unlike one another.

    Stands count as alike until what is seen at them, or at those behind the same act, tells them apart.
    """
    need_stand(house, stand)
    hall = Hall(house)
    steps = web_steps(house, stand)
    looks = numbered({here: seen_in(hall, here) for here in steps})
    many = 0
    while many < max(looks.values()) + 1:
        many = max(looks.values()) + 1
        looks = numbered({here: (looks[here], looks_behind(hall, looks, here, told)) for here, told in steps.items()})
    return many

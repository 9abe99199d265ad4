"""Ascending tuples of small integers, as lots and texts are: what is done with them once they are checked."""

from floorpowers.values import climb_fault, is_integer_from


def subset_fault(many, value):
    """The fault of what is no ascending tuple of integers from 0 on that are less than many."""
    return climb_fault(value, lambda item: is_integer_from(item, 0, many - 1))


def all_subsets(many):
    """All ascending tuples of integers from 0 on that are less than many, ascending."""
    subsets = [()]
    for item in range(many):
        subsets = subsets + [subset + (item,) for subset in subsets]
    return tuple(sorted(subsets))


def rest_of(many, subset):
    """The integers from 0 on that are less than many and not in a subset."""
    return tuple([item for item in range(many) if item not in subset])


def turned(many, subset, change):
    """The integers from 0 on that are less than many and stand in just one of both."""
    return tuple([item for item in range(many) if (item in subset) != (item in change)])


def is_within(subset, far_subset):
    """Whether the second one has all that the first one has."""
    return all([item in far_subset for item in subset])


def is_over_one(subsets, subset):
    """Whether one of some subsets lies within this one: so a lot is in a family."""
    return any([is_within(one, subset) for one in subsets])


def exchanged(subset, item, new_item):
    """A subset with another item in the place of one."""
    return tuple(sorted([new_item if one == item else one for one in subset]))


def least_of_closed(subsets):
    """The least ones of subsets, in their order, that have with each one all greater ones."""
    known = {subset: True for subset in subsets}
    return tuple([subset for subset in subsets if not any([is_known_without(known, subset, item) for item in subset])])


def is_known_without(known, subset, item):
    """Whether a subset with an item left out is known."""
    return tuple([one for one in subset if one != item]) in known

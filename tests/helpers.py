"""What several tests share: values of all kinds, refusals, and lots worked out in another way than the package does."""

from itertools import combinations

from floorpowers.errors import FloorError


class EqualToAll:
    """Claims to be equal to anything: who asks by == ahead of asking for the kind is misled."""

    def __eq__(self, other):
        return True

    def __hash__(self):
        return 0


class Touchy:
    """Fails at any comparison and has no length that can be asked for."""

    __hash__ = None

    def __eq__(self, other):
        raise RuntimeError("compared")

    __lt__ = __gt__ = __le__ = __ge__ = __eq__

    def __len__(self):
        raise RuntimeError("measured")

    def __bool__(self):
        raise RuntimeError("tested")


class OtherInt(int):
    """An integer that isn't a plain one."""


class OtherTuple(tuple):
    """A tuple that isn't a plain one."""


class OtherStr(str):
    """A string that isn't a plain one."""


def strange_values():
    """Values that are no integer of the package, no tuple and no string that it knows."""
    return [None, True, False, "", "0", "strange", b"put", [], [0], {}, {0: 0}, set(), {0}, frozenset(), object(),
            EqualToAll(), Touchy(), len, int, range(3), -10 ** 999, 10 ** 999]


def fields_of(error):
    """The fields of an error, by their names."""
    return dict(vars(error))


def is_same(found, value):
    """Whether a field is the very thing, or a plain number or word that equals it, or a tuple of such."""
    if type(found) is tuple and type(value) is tuple and len(found) == len(value):
        return all(is_same(each, other) for each, other in zip(found, value))
    return found is value or type(found) is type(value) and type(value) in (int, str) and found == value


def check_refused(case, kind, fields, function, /, *args, **named):
    """Check that a call raises an error of just this class with just these very fields."""
    try:
        answer = function(*args, **named)
    except FloorError as error:
        case.assertIs(type(error), kind, (function, fields_of(error)))
        found = fields_of(error)
        case.assertEqual(sorted(found), sorted(fields), function)
        for name, value in fields.items():
            case.assertTrue(is_same(found[name], value), (function, name))
        return
    case.fail(f"{function} is not refused: {answer!r}")


def model_lots(many):
    """All lots as frozen sets."""
    return [frozenset(lot) for size in range(many + 1) for lot in combinations(range(many), size)]


def as_lot(members):
    """The lot of some members."""
    return tuple(sorted(members))


def winning(many, family):
    """The lots of a family, as a set of frozen sets."""
    return {lot for lot in model_lots(many) if any(set(least) <= lot for least in family)}


def family_of_winning(lots):
    """The family whose lots these are."""
    return tuple(sorted(as_lot(lot) for lot in lots if not any(other < lot for other in lots)))


def model_families(many):
    """All families of at most four members, by the choices of lots one at a time, as sets of frozen sets."""
    lots = sorted(model_lots(many), key=len, reverse=True)
    found = [set()]
    for lot in lots:
        above = [lot | {member} for member in range(many) if member not in lot]
        found += [wins | {lot} for wins in found if all(other in wins for other in above)]
    return sorted(family_of_winning(wins) for wins in found)


def drawn_families(many, count):
    """Some families of many members, drawn always in the same way."""
    lots = model_lots(many)
    state = 12345
    found = {}
    while len(found) < count:
        picked = []
        state = (state * 1103515245 + 12345) & 0x7FFFFFFF
        for _ in range(1 + (state >> 8) % 5):
            state = (state * 1103515245 + 12345) & 0x7FFFFFFF
            picked.append(lots[(state >> 8) % len(lots)])
        found[family_of_winning([lot for lot in lots if any(one <= lot for one in picked)])] = True
    return list(found)


def some_families(many):
    """All families of up to three members, some of four and five."""
    if many <= 3:
        return model_families(many)
    return [(), ((),)] + drawn_families(many, 60)


def are_plain(value):
    """Whether a value is made of plain tuples, strings, integers, True, False and None."""
    if type(value) is tuple:
        return all(are_plain(item) for item in value)
    return value is None or type(value) in (int, str, bool)

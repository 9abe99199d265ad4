"""Sittings worked out apart from the package, by the words alone, and small houses for them.

A stand is a tuple as the package tells it; all that is asked of it is worked out from named parts and frozen sets.
"""

from itertools import combinations

KINDS = ("put", "amend", "lay", "take", "close", "end")
PARTS = ("word", "text", "table", "pile", "closed", "turn", "passes", "left")
HALF = (1, 2, True)
LEAST_HALF = (1, 2, False)
THIRD = (1, 3, False)
ALL = (1, 1, False)
NOBODY = (1, 1, True)


def book(**rules):
    """A book from KIND=(RANK, SHARE)."""
    return tuple((kind,) + rules[kind] for kind in KINDS if kind in rules)


FULL = book(put=(1, HALF), amend=(3, LEAST_HALF), lay=(5, HALF), take=(0, THIRD), close=(6, (2, 3, False)),
            end=(9, ALL))

# Houses whose sittings can be gone through whole, of all sorts: see the names.
SMALL = {
    "one member": ((1,), 1, FULL, (0,), 2),
    "two members": ((2, 1), 1, FULL, (1, 0), 2),
    "one who never has the turn": ((1, 1, 1), 2, book(put=(1, HALF), amend=(3, HALF)), (1, 0, 1), 2),
    "three members": ((3, 2, 1), 1, FULL, (1, 2, 0), 2),
    "no limit": ((1,), 1, book(put=(1, HALF), end=(4, HALF)), (0,), None),
    "no limit, lay and take": ((1, 2), 1, book(put=(1, HALF), lay=(2, HALF), take=(7, HALF)), (1, 1), None),
    "nobody carries": ((1, 1), 1, book(put=(2, HALF), amend=(4, NOBODY), close=(5, NOBODY), end=(6, NOBODY)),
                       (1, 0), 3),
    "each can bring it up": ((1, 1), 1, book(put=(2, LEAST_HALF), close=(3, (1, 9, True)), end=(7, LEAST_HALF)),
                             (0, 1), 3),
    "equal ranks": ((1, 2), 2, book(put=(5, HALF), amend=(5, HALF), lay=(6, HALF), take=(5, HALF), end=(5, HALF)),
                    (1, 0), 2),
    "end below": ((1, 2), 1, book(put=(5, HALF), amend=(7, HALF), lay=(6, HALF), close=(8, HALF), end=(0, HALF)),
                  (1, 0), 3),
    "close below amend and lay": ((1, 1), 1, book(put=(1, HALF), amend=(7, HALF), lay=(6, HALF), take=(2, HALF),
                                                  close=(3, HALF)), (1, 0), 4),
    "put alone": ((1, 1), 2, book(put=(0, HALF)), (1, 0), 3),
    "five members": ((5, 4, 3, 2, 1), 1, book(put=(1, HALF), end=(2, (2, 3, True))), (1, 2, 3, 4, 0), 1),
    "nothing may be moved": ((1, 1, 1), 1, FULL, (2, 0, 1), 0),
}


def parts(stand):
    """The parts of a stand by their names."""
    return dict(zip(PARTS, stand))


def stand_of(told):
    """The stand with these parts."""
    return tuple(told[part] for part in PARTS)


def lots(many):
    """All lots, or all texts of many clauses, ascending."""
    return sorted(lot for size in range(many + 1) for lot in combinations(range(many), size))


def rank(house, motion):
    """The rank of a motion."""
    return {kind: high for kind, high, _ in house[2]}[motion[0]]


def is_carried(house, motion, lot):
    """Whether a lot carries a motion."""
    parts_of, whole, is_more = {kind: share for kind, _, share in house[2]}[motion[0]]
    yes, everybody = sum(house[0][member] for member in lot), sum(house[0])
    return whole * yes > parts_of * everybody or (not is_more and whole * yes == parts_of * everybody)


def motions(house):
    """All motions, in any order."""
    found = [("put", text) for text in lots(house[1]) if text] + [("amend", clause) for clause in range(house[1])]
    found += [(kind,) for kind in KINDS[2:]]
    return [motion for motion in found if motion[0] in [rule[0] for rule in house[2]]]


def all_acts(house):
    """All acts, ascending, in order or not."""
    acts = [("pass",)] + [("vote", lot) for lot in lots(len(house[0]))]
    return sorted(acts + [("move", motion) for motion in motions(house)])


def may(house, stand, act):
    """Whether an act is in order, point for point."""
    if stand[0] == "over":
        return False
    told = parts(stand)
    if told["passes"] == len(house[0]):
        return act[0] == "vote"
    if act[0] != "move":
        return act[0] == "pass"
    pile, motion = told["pile"], act[1]
    on_put = len(pile) > 0 and pile[0][0] == "put"
    if told["left"] == 0 or (pile and rank(house, motion) <= rank(house, pile[-1])):
        return False
    return {"put": pile == (), "take": pile == () and told["table"] is not None, "amend": on_put and not told["closed"],
            "lay": on_put, "close": pile != () and not told["closed"], "end": True}[motion[0]]


def acts(house, stand):
    """The acts in order, ascending."""
    return tuple(act for act in all_acts(house) if may(house, stand, act))


def turned(text, clauses):
    """A text with clauses turned."""
    return tuple(sorted(set(text) ^ set(clauses)))


def carry(told, motion):
    """What a motion does that carries, to the parts of a stand in which it is pending no more."""
    kind, pile = motion[0], told["pile"]
    if kind == "put":
        told["text"] = turned(told["text"], motion[1])
    elif kind == "amend":
        told["pile"] = (("put", turned(pile[0][1], {motion[1]})),) + pile[1:]
    elif kind == "lay":
        told["table"], told["pile"] = pile[0][1], ()
    elif kind == "take":
        told["pile"], told["table"] = (("put", told["table"]),), None
    elif kind == "close":
        told["closed"] = True


def after(house, stand, act):
    """The stand to which an act in order leads."""
    told = parts(stand)
    if act[0] == "pass" and told["pile"] == () and told["passes"] == len(house[0]) - 1:
        return ("over", told["text"])
    if act[0] == "vote":
        motion, told["pile"], told["passes"] = told["pile"][-1], told["pile"][:-1], 0
        if is_carried(house, motion, act[1]):
            carry(told, motion)
            if motion[0] == "end":
                return ("over", told["text"])
        told["closed"] = told["closed"] and told["pile"] != ()
        return stand_of(told)
    told["turn"] = house[3][told["turn"]]
    told["passes"] += 1
    if act[0] == "move":
        told["passes"], told["pile"] = 0, told["pile"] + (act[1],)
        told["left"] = None if told["left"] is None else told["left"] - 1
    return stand_of(told)


def first_stand(house, text=(), member=0):
    """The beginning."""
    return ("floor", text, None, (), False, member, 0, house[4])


def graph(house, stand):
    """For each stand that can be reached the acts in order and where they lead; in no turn that is told."""
    found, left = {}, [stand]
    while left:
        here = left.pop()
        if here not in found:
            found[here] = {act: after(house, here, act) for act in acts(house, here)}
            left += found[here].values()
    return found


def least_rows(arrows, stand, is_let=lambda act, behind: True):
    """The least row to each stand that can be reached: rows are put right as long as a lesser one is found."""
    rows, changed = {stand: ()}, True
    while changed:
        changed = False
        for here, behind in [(here, arrows[here]) for here in list(rows)]:
            for act, there in behind.items():
                row = rows[here] + (act,)
                if is_let(act, there) and (there not in rows or (len(row), row) < (len(rows[there]), rows[there])):
                    rows[there], changed = row, True
    return rows


def all_rows(arrows, stand, most):
    """All rows of at most so many acts, with the stands on their ways."""
    found, level = [], [((), (stand,))]
    for _ in range(most + 1):
        found += level
        level = [(row + (act,), way + (there,)) for row, way in level for act, there in arrows[way[-1]].items()]
    return found


def drawn(state, many):
    """A number below many and the next state: always the same ones."""
    state = (state * 1103515245 + 12345) & 0x7FFFFFFF
    return (state >> 8) % many, state


def drawn_row(house, stand, state, most):
    """A row of at most so many acts, drawn always in the same way."""
    row = ()
    while len(row) < most and acts(house, stand):
        at, state = drawn(state, len(acts(house, stand)))
        act = acts(house, stand)[at]
        row, stand = row + (act,), after(house, stand, act)
    return row


# From the first of both stands 3,001 can be reached, from the second one 3,000.
EDGE_HOUSE = ((1, 1, 1), 3, book(put=(0, HALF), lay=(3, HALF), take=(3, HALF), close=(7, HALF)), (1, 2, 0), 5)
BEYOND_EDGE, ON_EDGE = [("floor", (), None, (("put", (1, 2)), ("lay",), ("close",)), False, 0, passes, 2)
                        for passes in (0, 1)]
GREAT = ((3, 2, 1), 3, FULL, (1, 2, 0), 9)

# From this stand 500 can be reached: with forty pins of minutes there are 20,000 pairs.
PAIRS_HOUSE = ((3, 1, 2, 1), 2, book(put=(1, THIRD), amend=(2, NOBODY), lay=(2, HALF)), (2, 0, 1, 2), 2)
ON_PAIRS = ("floor", (), None, (), False, 1, 0, 2)
FORTY_PINS = (("gap", 0, 9),) * 3 + (("gap", 0, 8),)

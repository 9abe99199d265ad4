"""Live: a sitting that goes on act by act, whose acts can be taken back, tried and copied."""

from floorpowers.acts import need_act_in
from floorpowers.errors import BadAct, BadNumber, NothingBack, TooGreat
from floorpowers.halls import Hall, acts_in, behind_act, is_act_in_order, is_question
from floorpowers.members import carrying_family
from floorpowers.stands import need_stand
from floorpowers.values import is_natural, plain

MOST_ACTS = 200


class Trial:
    """For one with statement: behind its block, however it ends, the sitting is what it was ahead of it."""

    def __init__(self, sitting):
        self._sitting = sitting
        self._held = ()

    def __enter__(self):
        self._held = self._sitting.steps_done()
        return self._sitting

    def __exit__(self, kind, value, trace):
        sitting = self._sitting
        sitting._done = self._held


class Sitting:
    """A live sitting: a house, a first stand, and the acts that are done, with the stands behind them."""

    def __init__(self, house, stand):
        need_stand(house, stand)
        self._seat = plain(house)
        self._hall = Hall(house)
        self._first = plain(stand)
        self._done = ()

    @property
    def house(self):
        """The house."""
        return self._seat

    @property
    def stand(self):
        """The stand behind all acts that are done."""
        return self._done[-1][1] if self._done else self._first

    @property
    def row(self):
        """The acts that are done."""
        return tuple([act for act, _ in self._done])

    @property
    def is_at_end(self):
        """Whether the sitting is over."""
        return self.stand[0] == "over"

    def __len__(self):
        return len(self._done)

    def __eq__(self, other):
        if not isinstance(other, Sitting):
            return False
        return self._seat == other._seat and self._first == other._first and self._done == other._done

    def steps_done(self):
        """The acts that are done, with the stands behind them."""
        return self._done

    def way_done(self):
        """The first stand, and those behind each act."""
        return (self._first,) + tuple([behind for _, behind in self._done])

    def do(self, act):
        """Do an act: the stand behind it."""
        need_act_in(self._seat, act)
        if not is_act_in_order(self._hall, self.stand, act):
            raise BadAct("order")
        if len(self._done) >= MOST_ACTS:
            raise TooGreat(MOST_ACTS)
        done = plain(act)
        behind = behind_act(self._hall, self.stand, done)
        self._done = self._done + ((done, behind),)
        return behind

    def may(self):
        """All acts in order, ascending; none where the question is put."""
        return () if is_question(self._hall, self.stand) else tuple(acts_in(self._hall, self.stand))

    def carriers(self):
        """The least lots, ascending, that carry the question, if it is put."""
        if not is_question(self._hall, self.stand):
            return ()
        kind = self.stand[3][-1][0]
        return carrying_family(self._hall.weights, self._hall.rules[kind][1])

    def undo(self, *, many=1):
        """Take back the last acts, so many."""
        if not is_natural(many) or many == 0:
            raise BadNumber(many)
        if many > len(self._done):
            raise NothingBack()
        self._done = self._done[:len(self._done) - many]

    def copy(self):
        """A sitting that stands likewise, with what can be taken back, and goes on by itself."""
        other = Sitting(self._seat, self._first)
        other._done = self._done
        return other

    def trial(self):
        """An object for one with statement, whose block gets this sitting."""
        return Trial(self)

    def under(self, manager, deed):
        """What a deed returns of what a manager gives, in a with statement over it."""
        return under(manager, deed)


def under(manager, deed):
    """What a deed returns of what a manager gives, in a with statement over it."""
    with manager as one:
        return deed(one)

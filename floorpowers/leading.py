"""Leading: a sitting in which a lot does by itself what forces a goal, or bars it, whatever the others do."""

from floorpowers.errors import BadAct, BadLot, BadName, BadPaper
from floorpowers.games import Play, choices_in, ranks_to
from floorpowers.halls import is_question
from floorpowers.houses import member_count
from floorpowers.live import Sitting
from floorpowers.members import need_lot_below
from floorpowers.plans import choice_by
from floorpowers.powers import goal_ends, need_powers
from floorpowers.reach import web_steps
from floorpowers.subsets import rest_of
from floorpowers.values import is_word_of, plain
from floorpowers.votes import side_in

WORDS = ("force", "bar")


class Guide:
    """What a lot does: to force a goal by the ranks of stands, to bar it by staying where the others have none."""

    def __init__(self, house, stand, lot, goal, is_forced):
        self.is_forced = is_forced
        self.lot = plain(lot)
        self.play = Play(house, self.lot if is_forced else rest_of(member_count(house), self.lot))
        self.steps = web_steps(house, stand)
        self.ranks = ranks_to(choices_in(self.play, self.steps), goal_ends(self.steps, goal))


def can_guide(guide, stand):
    """Whether the lot can force the goal, or bar it, from a stand."""
    return (stand in guide.ranks) == guide.is_forced


def own_act(guide, stand):
    """The act of a member of the lot at its turn, None where there is none that the guide tells."""
    if guide.is_forced:
        return choice_by(guide.play, stand, guide.ranks, guide.steps[stand])
    staying = [act for act, behind in guide.steps[stand] if behind not in guide.ranks]
    return staying[0] if staying else None


def does_say_yes(guide, stand):
    """Whether all members of the lot say yes where the question is put; otherwise none does."""
    if guide.is_forced:
        return choice_by(guide.play, stand, guide.ranks, guide.steps[stand]) is True
    side = side_in(guide.play.hall, stand[3][-1][0], guide.lot)
    down = guide.steps[stand][0][1]
    return side == "up" or (side == "decides" and down in guide.ranks)


class Led:
    """A led sitting: a lot forces a goal in it, or bars it."""

    def __init__(self, house, stand, lot, goal, word):
        need_powers(house, stand, lot, goal)
        if not is_word_of(word, WORDS):
            raise BadName(word)
        self._asked = (plain(lot), plain(goal), str(word))
        self._guide = Guide(house, stand, lot, goal, word == "force")
        if not can_guide(self._guide, plain(stand)):
            raise BadPaper(str(word))
        self._sitting = Sitting(house, stand)
        self._first = self._sitting.stand

    @property
    def stand(self):
        """The stand behind all acts that are done."""
        return self._sitting.stand

    def __len__(self):
        return len(self._sitting)

    def own_sitting(self):
        """The very sitting that is led."""
        return self._sitting

    def twin(self):
        """A sitting that stands likewise, from where it was led, and goes on by itself."""
        return self._sitting.copy()

    def due(self):
        """Whose act is due: "own", "others", "question" or "over"."""
        stand = self.stand
        if stand[0] == "over":
            return "over"
        if is_question(self._guide.play.hall, stand):
            return "question"
        return "own" if stand[5] in self._guide.lot else "others"

    def go(self):
        """Do the lot's act: the act."""
        act = own_act(self._guide, self.stand) if self.due() == "own" else None
        if act is None:
            raise BadAct(None)
        self._sitting.do(act)
        return act

    def hear(self, act):
        """Do an act of one of the others: the act."""
        if self.due() != "others":
            raise BadAct(None)
        self._sitting.do(act)
        return plain(act)

    def vote(self, yes):
        """Do the vote in which those of the others say yes, and the lot as it does: the vote."""
        need_lot_below(member_count(self._sitting.house), yes)
        for number, member in enumerate(yes):
            if member in self._guide.lot:
                raise BadLot(number)
        if self.due() != "question":
            raise BadAct(None)
        own = self._guide.lot if does_say_yes(self._guide, self.stand) else ()
        act = ("vote", tuple(sorted(plain(yes) + own)))
        self._sitting.do(act)
        return act

    def acts_left(self):
        """Behind how many acts at most the goal is forced, None to bar."""
        return self._guide.ranks.get(self.stand) if self._guide.is_forced else None

    def undo(self, *, many=1):
        """Take back the last acts, so many, since it was led."""
        self._sitting.undo(many=many)

    def copy(self):
        """A led sitting that stands likewise, with what can be taken back, and goes on by itself."""
        lot, goal, word = self._asked
        other = Led(self._sitting.house, self._first, lot, goal, word)
        other._sitting = self._sitting.copy()
        return other

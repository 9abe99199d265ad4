"""Words: taking texts word by word, by their form; what they tell may still be no house, stand, motion or act."""

from floorpowers.errors import BadWords
from floorpowers.houses import KINDS

MOST_FIGURES = 9
MOST_TOLD = 5
MOST_PILE = 6
MOST_PASSES = 99
ACT_WORDS = ("pass", "move", "vote")


class Reader:
    """A text, with the number of the line and of the word in it that is to be taken next."""

    def __init__(self, text):
        self.rows = [line.split(" ") for line in text.split("\n")]
        self.line_number = 0
        self.word_number = 0


def reader_of(text):
    """A reader of any value that is a string."""
    if not isinstance(text, str):
        raise BadWords(None, None)
    return Reader(str(text))


def has_line(reader):
    """Whether there is a line still."""
    return reader.line_number < len(reader.rows)


def word_here(reader):
    """The word that is to be taken next, None if the line, or the text, is at its end."""
    words = reader.rows[reader.line_number] if has_line(reader) else []
    return words[reader.word_number] if reader.word_number < len(words) else None


def need_here(reader, is_right):
    """What is refused of the word that is to be taken next, or of one that lacks."""
    if not is_right:
        raise BadWords(reader.line_number, reader.word_number)


def take_word(reader, words):
    """The next word, one of some."""
    word = word_here(reader)
    need_here(reader, word in words)
    reader.word_number += 1
    return word


def end_line(reader):
    """Go on to the next line: there is no word in this one any more."""
    need_here(reader, word_here(reader) is None)
    reader.line_number += 1
    reader.word_number = 0


def end_text(reader):
    """What is refused of a line too many."""
    need_here(reader, not has_line(reader))


def is_integer_word(word):
    """Whether a word, or None, is an integer of few figures, without needless noughts."""
    if word is None:
        return False
    figures = word[1:] if word.startswith("-") else word
    if not figures.isdigit() or not figures.isascii() or len(figures) > MOST_FIGURES:
        return False
    return not figures.startswith("0") or word == "0"


def take_integer(reader):
    """The next word, an integer."""
    word = word_here(reader)
    need_here(reader, is_integer_word(word))
    reader.word_number += 1
    return int(word)


def take_some(reader):
    """The next integers, some of them."""
    told = [take_integer(reader)]
    while len(told) < MOST_TOLD and is_integer_word(word_here(reader)):
        told.append(take_integer(reader))
    return tuple(told)


def is_next_above(reader, number):
    """Whether the next word is an integer above another one."""
    word = word_here(reader)
    return is_integer_word(word) and int(word) > number


def take_subset(reader):
    """The next words, of a text of clauses or a lot: "none", or ascending integers."""
    if word_here(reader) == "none":
        take_word(reader, ("none",))
        return ()
    told = [take_integer(reader)]
    while is_next_above(reader, told[-1]):
        told.append(take_integer(reader))
    return tuple(told)


def take_or_bare(reader, take):
    """None if the next word is "bare", otherwise what is taken."""
    if word_here(reader) == "bare":
        take_word(reader, ("bare",))
        return None
    return take(reader)


def take_rule(reader, kinds):
    """The next line, of a rule of one of some kinds."""
    kind = take_word(reader, kinds)
    rank, parts, whole = [take_integer(reader) for _ in range(3)]
    is_more = take_word(reader, ("more", "least")) == "more"
    end_line(reader)
    return (kind, rank, (parts, whole, is_more))


def take_book(reader):
    """The next lines, of a book: rules of kinds in their order, "put" first, up to the line that tells "next"."""
    book = [take_rule(reader, ("put",))]
    while word_here(reader) != "next":
        book.append(take_rule(reader, KINDS[KINDS.index(book[-1][0]) + 1:]))
    return tuple(book)


def take_told(reader, word, take):
    """The next line, of a word and what is taken behind it."""
    take_word(reader, (word,))
    told = take(reader)
    end_line(reader)
    return told


def take_house(reader):
    """The next lines, of a house."""
    weights = take_told(reader, "members", take_some)
    clauses = take_told(reader, "clauses", take_integer)
    book = take_book(reader)
    follow = take_told(reader, "next", take_some)
    limit = take_told(reader, "limit", lambda further: take_or_bare(further, take_integer))
    return (weights, clauses, book, follow, limit)


def take_motion(reader):
    """The next words, of a motion."""
    kind = take_word(reader, KINDS)
    if kind == "put":
        return (kind, take_subset(reader))
    return (kind, take_integer(reader)) if kind == "amend" else (kind,)


def take_act(reader):
    """The next words, of an act."""
    word = take_word(reader, ACT_WORDS)
    if word == "move":
        return (word, take_motion(reader))
    return (word, take_subset(reader)) if word == "vote" else (word,)


def take_pile(reader):
    """The next words, of pending motions and of whether they are closed: the tuple of both."""
    if word_here(reader) == "none":
        take_word(reader, ("none",))
        return ((), take_word(reader, ("open", "closed")) == "closed")
    pile = [take_motion(reader)]
    word = "then"
    while word == "then":
        word = take_word(reader, ("then", "open", "closed") if len(pile) < MOST_PILE else ("open", "closed"))
        if word == "then":
            pile.append(take_motion(reader))
    return (tuple(pile), word == "closed")


def take_stand(reader):
    """The next words, of a stand."""
    if take_word(reader, ("over", "floor")) == "over":
        return ("over", take_subset(reader))
    text = take_subset(reader)
    take_word(reader, ("table",))
    table = take_or_bare(reader, take_subset)
    take_word(reader, ("pile",))
    pile, is_closed = take_pile(reader)
    take_word(reader, ("turn",))
    turn = take_integer(reader)
    take_word(reader, ("passes",))
    passes = take_integer(reader)
    take_word(reader, ("left",))
    left = take_or_bare(reader, take_integer)
    return ("floor", text, table, pile, is_closed, turn, passes, left)


def take_goal(reader):
    """The next words, of a goal: "never", or texts of clauses with "or" between."""
    if word_here(reader) == "never":
        take_word(reader, ("never",))
        return ()
    goal = [take_subset(reader)]
    while word_here(reader) == "or":
        take_word(reader, ("or",))
        goal.append(take_subset(reader))
    return tuple(goal)


def take_begin(reader):
    """The next words, of a beginning: the text and the member."""
    take_word(reader, ("begin",))
    text = take_subset(reader)
    take_word(reader, ("turn",))
    return (text, take_integer(reader))


def take_passes(reader):
    """The next words, of passes that follow one another: how many."""
    take_word(reader, ("pass",))
    if word_here(reader) is None:
        return 1
    word = word_here(reader)
    need_here(reader, is_integer_word(word) and 2 <= int(word) <= MOST_PASSES)
    return take_integer(reader)


def take_short(reader, is_behind_passes):
    """The next line, of a short text: a number of passes, "yes", "no", or a move; behind passes no passes."""
    if word_here(reader) == "pass" and not is_behind_passes:
        told = take_passes(reader)
    elif word_here(reader) == "move":
        told = take_act(reader)
    else:
        told = take_word(reader, ("yes", "no"))
    end_line(reader)
    return told


def take_all(reader, take):
    """What is taken from a text of one line."""
    told = take(reader)
    end_line(reader)
    end_text(reader)
    return told


def take_row(reader):
    """The acts of a text, of one on each line, or of the word "none"."""
    if word_here(reader) == "none":
        take_word(reader, ("none",))
        end_line(reader)
        end_text(reader)
        return ()
    acts = []
    while has_line(reader):
        acts.append(take_act(reader))
        end_line(reader)
    return tuple(acts)


def take_shorts(reader):
    """What the lines of a short text tell."""
    if word_here(reader) == "none":
        take_word(reader, ("none",))
        end_line(reader)
        end_text(reader)
        return []
    told = []
    while has_line(reader):
        told.append(take_short(reader, bool(told) and isinstance(told[-1], int)))
    return told

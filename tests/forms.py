"""The forms of texts, worked out apart from the package: which words can stand where, whatever comes behind them.

A form is a function of tokens and a place that tells at which places it may end, and whether it would go on where the
tokens are at an end. Lines are parted by the token BREAK.
"""

import re

BREAK = "\n"
KINDS = ("put", "amend", "lay", "take", "close", "end")
INTEGER = re.compile("0|-?[1-9][0-9]{0,8}")


def word(*words):
    """One of some words."""
    def form(tokens, at):
        if at == len(tokens):
            return set(), True
        return ({at + 1} if tokens[at] in words else set()), False
    return form


def matching(pattern, is_right=lambda token: True):
    """A word that a pattern matches."""
    def form(tokens, at):
        if at == len(tokens):
            return set(), True
        return ({at + 1} if re.fullmatch(pattern, tokens[at]) and is_right(tokens[at]) else set()), False
    return form


def seq(*forms):
    """Forms behind one another."""
    def form(tokens, at):
        ends, is_hungry = {at}, False
        for each in forms:
            told = [each(tokens, place) for place in ends]
            ends = {end for more, _ in told for end in more}
            is_hungry = is_hungry or any(hungry for _, hungry in told)
        return ends, is_hungry
    return form


def alt(*forms):
    """One of some forms."""
    def form(tokens, at):
        told = [each(tokens, at) for each in forms]
        return {end for ends, _ in told for end in ends}, any(hungry for _, hungry in told)
    return form


def nothing(tokens, at):
    """No word."""
    return {at}, False


def times(form, least, most):
    """A form so many times."""
    told = [seq(*[form] * many) for many in range(least, most + 1)]
    return alt(*told)


def spread(form, between, most=60):
    """A form once or more, with words between."""
    def all_ends(tokens, at):
        ends, found, is_hungry = {at}, set(), False
        step = form
        for _ in range(most):
            told = [step(tokens, place) for place in ends]
            ends = {end for more, _ in told for end in more}
            is_hungry = is_hungry or any(hungry for _, hungry in told)
            found |= ends
            step = seq(between, form)
            if not ends:
                break
        return found, is_hungry
    return all_ends


def integers_above(tokens, at):
    """Integers, each above the one ahead."""
    found, last = set(), None
    while at < len(tokens) and INTEGER.fullmatch(tokens[at]) and (last is None or int(tokens[at]) > last):
        last, at = int(tokens[at]), at + 1
        found.add(at)
    return found, at == len(tokens)


integer = matching(INTEGER)
line_break = word(BREAK)
subset = alt(word("none"), integers_above)
bare_integer = alt(word("bare"), integer)
motion = alt(seq(word("put"), subset), seq(word("amend"), integer), word("lay", "take", "close", "end"))
act = alt(word("pass"), seq(word("move"), motion), seq(word("vote"), subset))
pile = alt(word("none"), spread(motion, word("then"), 6))
stand = alt(seq(word("over"), subset),
            seq(word("floor"), subset, word("table"), alt(word("bare"), subset), word("pile"), pile,
                word("open", "closed"), word("turn"), integer, word("passes"), integer, word("left"), bare_integer))


def rule(kind):
    """The line of a rule of a kind, with the break behind it."""
    return seq(word(kind), integer, integer, integer, word("more", "least"), line_break)


house = seq(word("members"), times(integer, 1, 5), line_break, word("clauses"), integer, line_break, rule("put"),
            *[alt(nothing, rule(kind)) for kind in KINDS[1:]],
            word("next"), times(integer, 1, 5), line_break, word("limit"), bare_integer)
row = alt(word("none"), spread(act, line_break))
few = matching("[1-9][0-9]?", lambda token: int(token) > 1)
passes = alt(word("pass"), seq(word("pass"), few))
no_passes = alt(seq(word("move"), motion), word("yes", "no"))


def short(tokens, at):
    """A short text: lines, passes not right behind passes."""
    ends, is_hungry = word("none")(tokens, at)
    level = [(place, kind) for form, kind in ((passes, True), (no_passes, False)) for place in form(tokens, at)[0]]
    is_hungry = is_hungry or passes(tokens, at)[1] or no_passes(tokens, at)[1]
    while level:
        ends |= {place for place, _ in level}
        further = []
        for place, is_behind in level:
            for form, kind in ((no_passes, False),) if is_behind else ((passes, True), (no_passes, False)):
                found, hungry = seq(line_break, form)(tokens, place)
                is_hungry = is_hungry or hungry
                further += [(end, kind) for end in found]
        level = further
    return ends, is_hungry


name = matching("[a-z]{1,8}")
goal = alt(word("never"), spread(subset, word("or")))
begin = seq(word("begin"), subset, word("turn"), integer)
thing = alt(seq(word("row"), name), seq(word("row"), name, line_break, spread(act, line_break)),
            seq(word("lot"), name, subset), seq(word("goal"), name, goal))
verdict = alt(seq(word("ends"), name, subset), seq(word("breaks", "short"), name, integer),
              seq(word("stands"), name, integer, stand), seq(word("forces", "bars", "same"), name, name),
              seq(word("comes"), name))
sheet = seq(house, line_break, begin,
            alt(nothing, seq(line_break, spread(thing, line_break))),
            alt(nothing, seq(line_break, spread(verdict, line_break))))


def tokens_of(text):
    """The tokens of a text."""
    tokens = []
    for number, line in enumerate(text.split("\n")):
        tokens += ([BREAK] if number else []) + line.split(" ")
    return tokens


def is_viable(form, tokens):
    """Whether tokens can stand at the beginning of a text of a form."""
    ends, is_hungry = form(tokens, 0)
    return is_hungry or len(tokens) in ends


def is_whole(form, tokens):
    """Whether tokens are a text of a form."""
    return len(tokens) in form(tokens, 0)[0]


def place_of(tokens):
    """The line of the last of some tokens and its number there, a break taken for what lacks ahead of it."""
    line = tokens[:-1].count(BREAK)
    start = max([at + 1 for at, token in enumerate(tokens[:-1]) if token == BREAK], default=0)
    return line, len(tokens) - 1 - start


def fault_of(form, text):
    """The line and the word of the first that can't stand in a text of a form, None of a text of it."""
    tokens = tokens_of(text)
    if is_whole(form, tokens):
        return None
    # What can stand at the beginning of a text stays so with less of it: so the first fault is found by halves.
    low, high = 0, len(tokens) + 1
    while high - low > 1:
        middle = (low + high) // 2
        if middle <= len(tokens) and is_viable(form, tokens[:middle]):
            low = middle
        else:
            high = middle
    if low < len(tokens):
        if tokens[low] == BREAK and is_whole(form, tokens[:low]):
            return tokens[:low + 1].count(BREAK), 0
        return place_of(tokens[:low + 1])
    if is_viable(form, tokens + [BREAK]):
        return tokens.count(BREAK) + 1, 0
    return place_of(tokens + [""])

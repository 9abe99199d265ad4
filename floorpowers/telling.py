"""Telling: the texts of houses, motions, acts, rows and stands. Nothing is checked, and all values are plain ones."""

from floorpowers.halls import behind_vote


def subset_words(subset):
    """The words of a text of clauses, or of a lot."""
    return " ".join([str(item) for item in subset]) if subset else "none"


def bare_words(number):
    """The words of a number, or of None."""
    return "bare" if number is None else str(number)


def told_house(house):
    """The text of a house."""
    weights, clauses, book, follow, limit = house
    lines = [f"members {subset_words(weights)}", f"clauses {clauses}"]
    for kind, rank, (parts, whole, is_more) in book:
        how = "more" if is_more else "least"
        lines.append(f"{kind} {rank} {parts} {whole} {how}")
    return "\n".join(lines + [f"next {subset_words(follow)}", f"limit {bare_words(limit)}"])


def told_motion(motion):
    """The text of a motion."""
    if motion[0] == "put":
        return f"put {subset_words(motion[1])}"
    return f"amend {motion[1]}" if motion[0] == "amend" else motion[0]


def told_act(act):
    """The text of an act."""
    if act[0] == "move":
        return f"move {told_motion(act[1])}"
    return f"vote {subset_words(act[1])}" if act[0] == "vote" else "pass"


def row_lines(row):
    """The lines of the text of a row."""
    return [told_act(act) for act in row] if row else ["none"]


def told_stand(stand):
    """The text of a stand."""
    if stand[0] == "over":
        return f"over {subset_words(stand[1])}"
    _, text, table, pile, is_closed, turn, passes, left = stand
    laid = "bare" if table is None else subset_words(table)
    piled = " then ".join([told_motion(motion) for motion in pile]) if pile else "none"
    how = "closed" if is_closed else "open"
    ahead = f"floor {subset_words(text)} table {laid} pile {piled} {how}"
    return f"{ahead} turn {turn} passes {passes} left {bare_words(left)}"


def vote_word(hall, here, behind):
    """How the short text tells a vote that leads from a stand to another one."""
    return "no" if behind == behind_vote(hall, here, False) else "yes"


def pass_words(count):
    """How the short text tells passes that follow one another."""
    return "pass" if count == 1 else f"pass {count}"


def short_lines(hall, way, row):
    """The lines of the short text of a row; way are the stands on its way."""
    lines = []
    passes = 0
    for here, act, behind in zip(way, row, way[1:]):
        if act[0] == "pass":
            passes += 1
        elif passes > 0:
            lines.append(pass_words(passes))
            passes = 0
        if act[0] == "move":
            lines.append(told_act(act))
        elif act[0] == "vote":
            lines.append(vote_word(hall, here, behind))
    if passes > 0:
        lines.append(pass_words(passes))
    return lines if lines else ["none"]

"""Rows counted and numbered, webs that are endless or not, how long sittings can be, and papers on that."""

from floorpowers.errors import BadNumber, BadPaper, BadRow
from floorpowers.halls import Hall, steps_in
from floorpowers.papers import need_paper_of
from floorpowers.reach import is_any_let, row_by, stands_ahead, ways_from, web_steps
from floorpowers.rows import need_way_in, way_in_order
from floorpowers.stands import need_stand
from floorpowers.values import is_integer_from, is_natural, plain

MOST_ACTS = 60
GREATEST_MOST = 200


def need_act_count(many):
    """How many acts, itself."""
    if not is_integer_from(many, 0, MOST_ACTS):
        raise BadNumber(many)
    return many


def act_numbers(hall, stand):
    """The pairs of the stands behind one act, each once, and how many acts lead there."""
    numbers = {}
    for _, behind in steps_in(hall, stand):
        numbers[behind] = numbers.get(behind, 0) + 1
    return list(numbers.items())


def web_numbers(house, stand):
    """For each stand of the web, in its turn, its act_numbers."""
    hall = Hall(house)
    return {here: act_numbers(hall, here) for here in web_steps(house, stand)}


def row_counts(numbers, many):
    """For each number of acts from 0 to many: for each stand how many rows of so many acts there are from it."""
    counts = [{stand: 1 for stand in numbers}]
    for _ in range(many):
        counts.append({stand: rows_over(told, counts[-1]) for stand, told in numbers.items()})
    return counts


def rows_over(told, counts):
    """How many rows there are by one act more, counts telling how many there are from the stands behind it."""
    return sum([number * counts[behind] for behind, number in told])


def rows_counted(house, stand, many):
    """How many rows of so many acts there are."""
    need_stand(house, stand)
    need_act_count(many)
    return row_counts(web_numbers(house, stand), many)[-1][plain(stand)]


def counts_behind(numbers, stand, many):
    """For each stand that comes by so many acts how many rows of them lead to it."""
    now = {stand: 1}
    for _ in range(many):
        then = {}
        for here, count in now.items():
            for behind, number in numbers[here]:
                then[behind] = then.get(behind, 0) + count * number
        now = then
    return now


def tally(house, stand, many):
    """For each text that comes, ascending, how many rows of so many acts come to it."""
    need_stand(house, stand)
    need_act_count(many)
    numbers = web_numbers(house, stand)
    counts = counts_behind(numbers, plain(stand), many)
    ends = sorted([here for here in numbers if here[0] == "over"])
    return tuple([(here[1], counts.get(here, 0)) for here in ends])


def step_numbered(steps, counts, number):
    """The step by which the row with a number goes on, and its number among those that go on so."""
    left = number
    for act, behind in steps:
        if left < counts[behind]:
            return (act, behind, left)
        left -= counts[behind]
    return None


def row_numbered(house, stand, many, number):
    """The row with a number among all of so many acts, ascending."""
    need_stand(house, stand)
    need_act_count(many)
    counts = row_counts(web_numbers(house, stand), many)
    here = plain(stand)
    if not is_integer_from(number, 0, counts[-1][here] - 1):
        raise BadNumber(number)
    hall = Hall(house)
    row = []
    left = int(number)
    for further in reversed(counts[:-1]):
        act, here, left = step_numbered(steps_in(hall, here), further, left)
        row.append(act)
    return tuple(row)


def number_of(house, stand, row):
    """The number of a row among all of as many acts, ascending."""
    need_stand(house, stand)
    way = need_way_in(house, stand, row)
    if len(row) > MOST_ACTS:
        raise BadRow(MOST_ACTS)
    counts = row_counts(web_numbers(house, stand), len(row))
    hall = Hall(house)
    number = 0
    for here, act, further in zip(way, plain(row), counts[:-1][::-1]):
        number += sum([further[behind] for other, behind in steps_in(hall, here) if other < act])
    return number


def is_without_end(house, stand):
    """Whether the web of a stand is endless: what has no limit can always be moved and voted down again."""
    return house[4] is None and stand[0] == "floor"


def is_endless(house, stand):
    """Whether from some stand of the web a row of one act or more comes to it again."""
    need_stand(house, stand)
    web_steps(house, stand)
    return is_without_end(house, stand)


def ring_at(steps, stand):
    """The least row of one act or more from a stand to itself, None if there is none."""
    ways = ways_from(steps, stand, is_any_let)
    for here in ways:
        for act, behind in steps[here]:
            if behind == stand:
                return row_by(ways, here) + (act,)
    return None


def first_ring(steps, first):
    """The least row to a stand with a ring, and the least ring of that stand; None if no stand has one."""
    for stand in steps:
        ring = ring_at(steps, stand)
        if ring is not None:
            return (row_by(ways_from(steps, first, is_any_let), stand), ring)
    return None


def ring_from(house, stand):
    """The least row to a stand with a ring, and the least ring of that stand; None if the web isn't endless."""
    need_stand(house, stand)
    steps = web_steps(house, stand)
    return first_ring(steps, plain(stand)) if is_without_end(house, stand) else None


def from_the_end(steps):
    """The stands of a web that isn't endless, each of them behind all to which its acts lead."""
    ahead = stands_ahead(steps)
    left = {stand: len(told) for stand, told in steps.items()}
    stands = [stand for stand in steps if left[stand] == 0]
    at = 0
    while at < len(stands):
        for stand in ahead[stands[at]]:
            left[stand] -= 1
            if left[stand] == 0:
                stands.append(stand)
        at += 1
    return stands


def heights_in(steps):
    """For each stand of a web that isn't endless how many acts a row from it has at most."""
    heights = {}
    for stand in from_the_end(steps):
        heights[stand] = max([heights[behind] + 1 for _, behind in steps[stand]], default=0)
    return heights


def sittings_counted(house, stand):
    """How many sittings there are, None if the web is endless."""
    need_stand(house, stand)
    steps = web_steps(house, stand)
    if is_without_end(house, stand):
        return None
    hall = Hall(house)
    counts = {}
    for here in from_the_end(steps):
        counts[here] = 1 if here[0] == "over" else rows_over(act_numbers(hall, here), counts)
    return counts[plain(stand)]


def web_length(house, stand):
    """The most acts of a sitting, None if the web is endless."""
    need_stand(house, stand)
    steps = web_steps(house, stand)
    return None if is_without_end(house, stand) else heights_in(steps)[plain(stand)]


def longest_in(steps, stand):
    """The least sitting with the most acts, of a web that isn't endless."""
    heights = heights_in(steps)
    here = stand
    row = []
    while heights[here] > 0:
        act, here = [step for step in steps[here] if heights[step[1]] == heights[here] - 1][0]
        row.append(act)
    return tuple(row)


def longest_row(house, stand):
    """The least sitting with the most acts, None if the web is endless."""
    need_stand(house, stand)
    steps = web_steps(house, stand)
    return None if is_without_end(house, stand) else longest_in(steps, plain(stand))


def need_most(most):
    """The bound of a paper, itself."""
    if not is_integer_from(most, 0, GREATEST_MOST):
        raise BadNumber(most)
    return most


def length_paper(house, stand, most):
    """A paper on whether so many acts are as many as a row in order can have."""
    need_stand(house, stand)
    need_most(most)
    steps = web_steps(house, stand)
    here = plain(stand)
    if is_without_end(house, stand):
        row, ring = first_ring(steps, here)
        return ("long", (row + ring * (most + 1))[:most + 1])
    heights = heights_in(steps)
    if heights[here] <= most:
        return ("heights", tuple([heights[each] for each in steps]))
    return ("long", longest_in(steps, here))


def do_heights_hold(steps, heights, most):
    """Whether a tuple of anything has an integer from 0 on for each stand that is above those behind its acts."""
    if len(heights) != len(steps) or not all([is_natural(height) for height in heights]):
        return False
    told = {stand: height for stand, height in zip(steps, heights)}
    if heights[0] > most:
        return False
    return all([told[stand] > told[behind] for stand in steps for _, behind in steps[stand]])


def check_length(house, stand, most, paper):
    """Whether a paper shows that so many acts are as many as a row can have: True of "heights", False of "long"."""
    need_stand(house, stand)
    need_most(most)
    word, told = need_paper_of(("heights", "long"), paper)
    if word == "long":
        does_hold = len(told) > most and len(way_in_order(house, stand, told)) == len(told) + 1
    else:
        does_hold = do_heights_hold(web_steps(house, stand), told, most)
    if not does_hold:
        raise BadPaper(str(word))
    return word == "heights"

"""Two that read the same letters, side by side: both by rules as of machines, with an amount for each letter."""

from keptmisses.fraction import ZERO, common, is_less, minus, reduced, top_over, total
from keptmisses.machines import is_row

BEGIN = (0, 0)


def both_steps(one, other, pair):
    """For each letter by how much the one's amount is more at a pair of states, and the pair behind."""
    steps = []
    for (amount, behind), (other_amount, other_behind) in zip(one[pair[0]], other[pair[1]]):
        steps.append((minus(amount, other_amount), (behind, other_behind)))
    return steps


def first_rows(one, other):
    """For each pair of states to which some row leads the earliest such row, in the order in which they come."""
    rows = {BEGIN: ()}
    pairs = [BEGIN]
    done = 0
    while done < len(pairs):
        row = rows[pairs[done]]
        for letter, (_, behind) in enumerate(both_steps(one, other, pairs[done])):
            if behind not in rows:
                rows[behind] = row + (letter,)
                pairs.append(behind)
        done += 1
    return rows


def steps_in_parts(one, other, pairs):
    """The steps of both at these pairs, with amounts in parts, and how many parts are 1."""
    found = {pair: both_steps(one, other, pair) for pair in pairs}
    _, parts = common([amount for steps in found.values() for amount, _ in steps])
    steps_at = {}
    for pair, steps in found.items():
        steps_at[pair] = [(top_over(amount, parts), behind) for amount, behind in steps]
    return steps_at, parts


def sums_behind(steps, most):
    """For each letter its amount and the most behind it, together."""
    return [amount + most[behind] for amount, behind in steps]


def mosts_within(steps_at):
    """For n = 0, 1, .. the most, from each pair on, by rows of at most n letters; to the last n with which it rises.

    If it rises with as many letters as there are pairs, that is the last n.
    """
    found = [{pair: 0 for pair in steps_at}]
    while len(found) <= len(steps_at):
        most = found[-1]
        more = {pair: max([0] + sums_behind(steps, most)) for pair, steps in steps_at.items()}
        if more == most:
            break
        found.append(more)
    return found


def best_row(steps_at, found, pair):
    """The least row that has the last most from a pair on, and the list of the pairs on its way.

    With fewer letters there must be less.
    """
    row = ()
    pairs = [pair]
    for most in reversed(found[:-1]):
        sums = sums_behind(steps_at[pair], most)
        letter = sums.index(max(sums))
        pair = steps_at[pair][letter][1]
        row = row + (letter,)
        pairs.append(pair)
    return row, pairs


def rising_ring(steps_at, found):
    """A pair, and a row that leads back to it and has more than 0; the most must rise with each letter that is let."""
    least, most = found[-2:]
    row, pairs = best_row(steps_at, found, [pair for pair in most if most[pair] > least[pair]][0])
    # Some pair comes twice. What is between must have more than 0, or without it fewer letters would have as much.
    end = 1
    while pairs[end] not in pairs[:end]:
        end += 1
    return pairs[end], row[pairs.index(pairs[end]):end]


def most_over(one, other):
    """The greatest sum by which the one's amounts are more than the other's, and its earliest row; or what has no end.

    They are told as ("most", number, row) and ("endless", ahead, ring).
    """
    rows = first_rows(one, other)
    steps_at, parts = steps_in_parts(one, other, list(rows))
    found = mosts_within(steps_at)
    if len(found) > len(steps_at):
        pair, ring = rising_ring(steps_at, found)
        return ("endless", rows[pair], ring)
    most = found[-1][BEGIN]
    letters = [level[BEGIN] for level in found].index(most)
    row, _ = best_row(steps_at, found[:letters + 1], BEGIN)
    return ("most", reduced(most, parts), row)


def read_both(one, other, pair, row):
    """The pair of states behind a row from a pair on, and the sum by which the one's amounts are more."""
    parts = []
    for letter in row:
        amount, pair = both_steps(one, other, pair)[letter]
        parts.append(amount)
    return pair, total(parts)


def is_rise(size, one, other, thing):
    """Whether a thing is ("endless", ahead, ring) with rows of this size by which the one's amounts have no end."""
    if not isinstance(thing, tuple) or len(thing) != 3 or thing[0] != "endless":
        return False
    _, ahead, ring = thing
    if not is_row(size, ahead) or not is_row(size, ring) or len(ring) == 0:
        return False
    pair, _ = read_both(one, other, BEGIN, ahead)
    behind, more = read_both(one, other, pair, ring)
    return behind == pair and is_less(ZERO, more)

"""Advisers, each of whom tells one letter ahead of each; and how closely the best of some can be followed."""

from keptmisses.errors import NoCircle, NoNumber, NoRow, TooMany
from keptmisses.fraction import reduced
from keptmisses.levels import SIZES_MULTIPLE, best_lot, filled
from keptmisses.machines import are_below, is_below, is_row, is_ruled

MOST_ADVISER_STATES = 6
MOST_ADVISERS = 4
MOST_AHEAD = 10
MOST_TUPLES = 3000


def is_advice(thing, size, states):
    """Whether a thing is a pair (letter, nexts) of an adviser of this size with so many states."""
    if not isinstance(thing, tuple) or len(thing) != 2:
        return False
    return is_below(thing[0], size) and are_below(thing[1], size, states)


def is_adviser(thing):
    """Whether a thing is an adviser."""
    return is_ruled(thing, MOST_ADVISER_STATES, is_advice)


def is_circle(thing):
    """Whether a thing is a tuple of 1 to 4 advisers of one size."""
    if not isinstance(thing, tuple) or not 1 <= len(thing) <= MOST_ADVISERS:
        return False
    return all([is_adviser(adviser) for adviser in thing]) and all([adviser[0] == thing[0][0] for adviser in thing])


def heard(circle, states, missed, letter):
    """The states of the advisers behind a letter, and how many letters each one missed."""
    behind = []
    more = []
    for (_, rules), state, many in zip(circle, states, missed):
        advice, nexts = rules[state]
        behind.append(nexts[letter])
        more.append(many if advice == letter else many + 1)
    return tuple(behind), tuple(more)


def nothing_heard(circle):
    """The states of the advisers ahead of all letters, and that they missed none."""
    return (0,) * len(circle), (0,) * len(circle)


def adviser_misses(circle, row):
    """The tuple of how many letters of a row each adviser missed."""
    if not is_circle(circle):
        raise NoCircle()
    if not is_row(circle[0][0], row):
        raise NoRow()
    states, missed = nothing_heard(circle)
    for letter in row:
        states, missed = heard(circle, states, missed, letter)
    return missed


def ways(circle, place):
    """For each letter the place behind it, and by how much it raises the least misses.

    A place is the tuple of the advisers' states and that of their misses, less the least.
    """
    found = []
    for letter in range(circle[0][0]):
        states, missed = heard(circle, place[0], place[1], letter)
        least = min(missed)
        found.append(((states, tuple([many - least for many in missed])), least))
    return found


def places_within(circle, n):
    """For each number of letters up to n the dict of the places to which so many letters lead; it tells their ways."""
    found = []
    ahead = {nothing_heard(circle): True}
    for _ in range(n):
        here = {place: ways(circle, place) for place in ahead}
        ahead = {behind: True for steps in here.values() for behind, _ in steps}
        if len(ahead) > MOST_TUPLES:
            raise TooMany(MOST_TUPLES)
        found.append(here)
    # Behind the last letter no way is left.
    found.append({place: [] for place in ahead})
    return found


def worths_in(steps, lags, scale):
    """The tops over a scale of the letters' worths: the lag behind each, less what it raises the least misses."""
    return [lags[behind] - raised * scale for behind, raised in steps]


def lags_from(found, many):
    """The lags that are still to come at the places behind so many letters: the dict of their tops, and one bottom."""
    lags = {place: 0 for place in found[-1]}
    scale = 1
    for here in reversed(found[many:-1]):
        more = {}
        for place, steps in here.items():
            lot, most = best_lot(worths_in(steps, lags, scale), scale)
            more[place] = most * (SIZES_MULTIPLE // len(lot))
        lags = more
        scale = scale * SIZES_MULTIPLE
    return lags, scale


def check_circle(circle, n):
    """Raises what is due if this isn't a circle and a number of letters."""
    if not is_circle(circle):
        raise NoCircle()
    if not is_below(n, MOST_AHEAD + 1):
        raise NoNumber()


def lag(circle, n):
    """The least c with which misses on each row of n letters are at most those of the best adviser and c together."""
    check_circle(circle, n)
    lags, scale = lags_from(places_within(circle, n), 0)
    return reduced(lags[nothing_heard(circle)], scale)


def followed(circle, n, row):
    """The chances ahead of the letter behind a row, by which the best adviser is followed as closely as can be."""
    check_circle(circle, n)
    if not is_row(circle[0][0], row) or len(row) >= n:
        raise NoRow()
    found = places_within(circle, n)
    place = nothing_heard(circle)
    for letter in row:
        place = ways(circle, place)[letter][0]
    lags, scale = lags_from(found, len(row) + 1)
    worths = worths_in(ways(circle, place), lags, scale)
    return filled(tuple([reduced(worth, scale) for worth in worths]))

"""Chancers: who draws at each state evenly from one lot, and what this gains against whomever guesses."""

from keptmisses.errors import NoChancer
from keptmisses.fraction import ZERO, is_less, negated, reduced, solved, total
from keptmisses.heights import climbed, drawn
from keptmisses.machines import MOST_TOP, come_to, is_below, reached


def ascends(items):
    """Whether each item is above the one ahead of it."""
    return all([one < other for one, other in zip(items, items[1:])])


def is_lot(thing, size):
    """Whether a thing is a lot of letters below the size."""
    if not isinstance(thing, tuple) or len(thing) == 0:
        return False
    return all([is_below(letter, size) for letter in thing]) and ascends(thing)


def is_draw(thing, machine):
    """Whether a thing is a pair (state, lot) of the machine."""
    if not isinstance(thing, tuple) or len(thing) != 2:
        return False
    return is_below(thing[0], len(machine[1])) and is_lot(thing[1], machine[0])


def is_ring(rules, chancer):
    """Whether one comes by the letters of the lots from each state to just all states."""
    states = tuple([state for state, _ in chancer])
    nexts = {}
    for state, lot in chancer:
        nexts[state] = [rules[state][letter][1] for letter in lot]
    inside = all([behind in nexts for own in nexts.values() for behind in own])
    return inside and all([come_to(nexts, begin) == states for begin in states])


def is_chancer(machine, thing):
    """Whether a thing is a chancer of the machine."""
    found = reached(machine)
    if not isinstance(thing, tuple) or len(thing) == 0:
        return False
    if not all([is_draw(draw, machine) for draw in thing]):
        return False
    states = [state for state, _ in thing]
    if not ascends(states) or not all([state in found for state in states]):
        return False
    return is_ring(machine[1], thing)


def shares_of(machine, chancer):
    """The shares of a chancer's states, in order."""
    rows = drawn(machine[1], dict(chancer))
    # What comes to a state is a column. The last state's letters are drawn once each; how often the other ones' are,
    # their balances tell.
    columns = [list(column) for column in zip(*rows)]
    flows, whole = solved([column[:-1] + [-column[-1]] for column in columns[:-1]])
    weights = [flow * len(draw[1]) for flow, draw in zip(flows + [whole], chancer)]
    return tuple([reduced(weight, sum(weights)) for weight in weights])


def draw_gain(rule, lot):
    """What drawing once from a lot gains: 1 - 1 / size, less the mean allowance."""
    many = len(lot)
    top, bottom = total([(many - 1, 1)] + [negated(rule[letter][0]) for letter in lot])
    return reduced(top, bottom * many)


def gain_of(machine, chancer):
    """What a chancer gains for each letter, in the mean."""
    parts = []
    for share, (state, lot) in zip(shares_of(machine, chancer), chancer):
        top, bottom = draw_gain(machine[1][state], lot)
        parts.append((share[0] * top, share[1] * bottom))
    return total(parts)


def shares(machine, chancer):
    """The shares of a chancer's states, in order."""
    if not is_chancer(machine, chancer):
        raise NoChancer()
    return shares_of(machine, chancer)


def gain(machine, chancer):
    """What a chancer gains for each letter, in the mean."""
    if not is_chancer(machine, chancer):
        raise NoChancer()
    return gain_of(machine, chancer)


def winner(machine):
    """A chancer with a gain above 0, or None if there is none."""
    return climbed(machine, ZERO)[1]


def is_winner(machine, thing):
    """Whether a thing is a chancer with a gain above 0."""
    return is_chancer(machine, thing) and is_less(ZERO, gain_of(machine, thing))


def greatest(machine):
    """A chancer with the greatest gain, and this gain."""
    # With so little added each chancer wins; with a chancer's gain added just those win that gain more than it.
    most = (-MOST_TOP - 1, 1)
    better = climbed(machine, most)[1]
    while better is not None:
        best = better
        most = gain_of(machine, best)
        better = climbed(machine, most)[1]
    return best, most


def most_gain(machine):
    """The greatest gain of all chancers."""
    return greatest(machine)[1]


def best_chancer(machine):
    """A chancer with the greatest gain."""
    return greatest(machine)[0]

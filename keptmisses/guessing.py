"""Guessing machines: what strangers tell, judged for all rows."""

from keptmisses.errors import NoGuessing, NoMachine, NoRow, OtherSize
from keptmisses.fraction import ONE, minus
from keptmisses.guessers import all_chances, kept_heights
from keptmisses.machines import MOST_STATES, are_below, is_chances, is_machine, is_row, is_ruled
from keptmisses.pairs import is_rise, most_over


def is_telling(thing, size, states):
    """Whether a thing is a pair (chances, nexts) of a guessing machine of this size with so many states."""
    if not isinstance(thing, tuple) or len(thing) != 2:
        return False
    return is_chances(size, thing[0]) and are_below(thing[1], size, states)


def is_guessing(thing):
    """Whether a thing is a guessing machine."""
    return is_ruled(thing, MOST_STATES, is_telling)


def told_by(guessing, row):
    """The tuple of the chances that a guessing machine tells ahead of each letter of a row."""
    if not is_guessing(guessing):
        raise NoGuessing()
    size, rules = guessing
    if not is_row(size, row):
        raise NoRow()
    told = []
    state = 0
    for letter in row:
        chances, nexts = rules[state]
        told.append(chances)
        state = nexts[letter]
    return tuple(told)


def as_guessing(machine):
    """The guesser of a machine as a guessing machine, its states the reached ones in order."""
    told = all_chances(machine, kept_heights(machine))
    places = {}
    for state in told:
        places[state] = len(places)
    rules = []
    for state, chances in told.items():
        rules.append((chances, tuple([places[behind] for _, behind in machine[1][state]])))
    return (machine[0], tuple(rules))


def check_both(machine, guessing):
    """Raises what is due if one isn't a machine, or the other one no guessing machine of its size."""
    if not is_machine(machine):
        raise NoMachine()
    if not is_guessing(guessing):
        raise NoGuessing()
    if machine[0] != guessing[0]:
        raise OtherSize()


def missing_rules(guessing):
    """The rules of a guessing machine like those of a machine: for each letter what it misses, and the state behind."""
    rules = []
    for chances, nexts in guessing[1]:
        rules.append(tuple([(minus(ONE, chance), behind) for chance, behind in zip(chances, nexts)]))
    return tuple(rules)


def worst(machine, guessing):
    """By how much misses are more than allowed at most, and the earliest row of it; or how they are ever more."""
    check_both(machine, guessing)
    return most_over(missing_rules(guessing), machine[1])


def is_endless(machine, guessing, thing):
    """Whether a thing tells rows by which misses are ever more than allowed: ("endless", ahead, ring)."""
    check_both(machine, guessing)
    return is_rise(machine[0], missing_rules(guessing), machine[1], thing)

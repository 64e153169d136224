"""Machines put together: with more allowed, with other letters, mixed, and without what isn't reached."""

from keptmisses.compare import check_machines
from keptmisses.errors import NoBound, NoFraction, NoLetters, NoMachine, NoPart, TooMany
from keptmisses.fraction import ONE, ZERO, is_fraction, is_less, minus, reduced, total
from keptmisses.machines import MOST_STATES, are_below, is_allowance, is_machine, reached
from keptmisses.pairs import first_rows


def bounded(allowance):
    """An allowance of a machine that is made, if it is let."""
    if not is_allowance(allowance):
        raise NoBound()
    return allowance


def added(machine, amount):
    """The machine that allows so much more for each letter."""
    if not is_machine(machine):
        raise NoMachine()
    if not is_fraction(amount):
        raise NoFraction()
    size, rules = machine
    more = []
    for rule in rules:
        more.append(tuple([(bounded(total([allowance, amount])), behind) for allowance, behind in rule]))
    return (size, tuple(more))


def relettered(machine, letters):
    """The machine for which letters[x] is what x is for this one."""
    if not is_machine(machine):
        raise NoMachine()
    size, rules = machine
    if not are_below(letters, size, size) or sorted(letters) != list(range(size)):
        raise NoLetters()
    return (size, tuple([tuple([rule[letters.index(letter)] for letter in range(size)]) for rule in rules]))


def is_part(thing):
    """Whether a thing is a fraction from 0 to 1."""
    return is_fraction(thing) and not is_less(thing, ZERO) and not is_less(ONE, thing)


def times(one, other):
    """One fraction times the other one."""
    return reduced(one[0] * other[0], one[1] * other[1])


def mixed_rule(rule, other_rule, part, places):
    """The rule of a pair of states: less of the one's allowances and a part of the other's, and the pairs' numbers."""
    found = []
    for (allowance, behind), (other_allowance, other_behind) in zip(rule, other_rule):
        mean = total([times(minus(ONE, part), allowance), times(part, other_allowance)])
        found.append((bounded(mean), places[(behind, other_behind)]))
    return tuple(found)


def mixed(one, other, part):
    """The machine that allows 1 less a part of what one allows, and this part of what other allows."""
    check_machines(one, other)
    if not is_part(part):
        raise NoPart()
    places = {}
    for pair in first_rows(one[1], other[1]):
        places[pair] = len(places)
    if len(places) > MOST_STATES:
        raise TooMany(MOST_STATES)
    return (one[0], tuple([mixed_rule(one[1][state], other[1][other_state], part, places)
                           for state, other_state in places]))


def trimmed(machine):
    """The machine of the reached states alone, in order."""
    places = {}
    for state in reached(machine):
        places[state] = len(places)
    size, rules = machine
    kept_rules = []
    for state in places:
        kept_rules.append(tuple([(allowance, places[behind]) for allowance, behind in rules[state]]))
    return (size, tuple(kept_rules))

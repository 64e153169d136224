"""Machines, rows and chances: what they are, and what a row is allowed and misses."""

from keptmisses.errors import NoChances, NoMachine, NoRow, NoSize
from keptmisses.fraction import ONE, is_fraction, is_whole, minus, total

LEAST_SIZE = 2
MOST_SIZE = 4
MOST_LETTERS = 400
MOST_STATES = 12
MOST_TOP = 1000000
MOST_BOTTOM = 1000


def is_size(thing):
    """Whether a thing is a size: how many letters there are."""
    return is_whole(thing) and LEAST_SIZE <= thing <= MOST_SIZE


def is_below(thing, end):
    """Whether a thing is an integer from 0 on and below an end, as letters and states are."""
    return is_whole(thing) and 0 <= thing < end


def are_below(thing, many, end):
    """Whether a thing is a tuple of so many integers from 0 on and below an end."""
    if not isinstance(thing, tuple) or len(thing) != many:
        return False
    return all([is_below(item, end) for item in thing])


def is_allowance(thing):
    """Whether a thing is a fraction that a machine may allow for a letter."""
    if not is_fraction(thing):
        return False
    top, bottom = thing
    return -MOST_TOP <= top <= MOST_TOP and bottom <= MOST_BOTTOM


def is_step(thing, states):
    """Whether a thing is a pair (allowance, next) of a machine with so many states."""
    if not isinstance(thing, tuple) or len(thing) != 2:
        return False
    return is_allowance(thing[0]) and is_below(thing[1], states)


def is_rule(thing, size, states):
    """Whether a thing is a rule of a machine of this size with so many states."""
    if not isinstance(thing, tuple) or len(thing) != size:
        return False
    return all([is_step(step, states) for step in thing])


def is_ruled(thing, most, judge):
    """Whether a thing is a tuple (size, rules) of 1 to most rules, as judge(rule, size, states) tells."""
    if not isinstance(thing, tuple) or len(thing) != 2:
        return False
    size, rules = thing
    if not is_size(size) or not isinstance(rules, tuple):
        return False
    states = len(rules)
    return 1 <= states <= most and all([judge(rule, size, states) for rule in rules])


def is_machine(thing):
    """Whether a thing is a machine."""
    return is_ruled(thing, MOST_STATES, is_rule)


def is_row(size, thing):
    """Whether a thing is a row of letters below the size."""
    if not is_size(size):
        raise NoSize()
    if not isinstance(thing, tuple) or len(thing) > MOST_LETTERS:
        return False
    return all([is_below(letter, size) for letter in thing])


def is_chances(size, thing):
    """Whether a thing is chances for so many letters."""
    if not is_size(size):
        raise NoSize()
    if not isinstance(thing, tuple) or len(thing) != size:
        return False
    if not all([is_fraction(chance) and chance[0] >= 0 for chance in thing]):
        return False
    return total(thing) == ONE


def come_to(nexts, begin):
    """The ascending tuple of the states to which one comes from a state, itself too; nexts tells those behind each."""
    found = [begin]
    done = 0
    while done < len(found):
        behind = nexts[found[done]]
        for state in behind:
            if state not in found:
                found.append(state)
        done += 1
    return tuple(sorted(found))


def reached(machine):
    """The ascending tuple of the states to which some row leads."""
    if not is_machine(machine):
        raise NoMachine()
    return come_to([[state for _, state in rule] for rule in machine[1]], 0)


def steps_of(machine, row):
    """The list of the pairs (allowance, next) by which the machine reads the letters of the row."""
    if not is_machine(machine):
        raise NoMachine()
    size, rules = machine
    if not is_row(size, row):
        raise NoRow()
    steps = []
    state = 0
    for letter in row:
        step = rules[state][letter]
        steps.append(step)
        state = step[1]
    return steps


def state_after(machine, row):
    """The state in which the machine is behind the row."""
    steps = steps_of(machine, row)
    return steps[-1][1] if steps else 0


def allowed(machine, row):
    """What the machine allows for all letters of the row together."""
    return total([allowance for allowance, _ in steps_of(machine, row)])


def is_told(told, row, size):
    """Whether told is a tuple of chances of this size, one ahead of each letter of the row."""
    if not isinstance(told, tuple) or len(told) != len(row):
        return False
    return is_row(size, row) and all([is_chances(size, chances) for chances in told])


def misses(row, told):
    """What the row misses in all, by the chances that were told ahead of each of its letters."""
    if not is_row(MOST_SIZE, row):
        raise NoRow()
    if not any([is_told(told, row, size) for size in range(LEAST_SIZE, MOST_SIZE + 1)]):
        raise NoChances()
    return total([minus(ONE, chances[letter]) for letter, chances in zip(row, told)])

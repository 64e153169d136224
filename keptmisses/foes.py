"""Foes: they break whoever promises to begin with less than the least start."""

from keptmisses.errors import Held, NoFraction, NoMachine, TooMany
from keptmisses.fraction import ZERO, is_fraction, is_less, negated, total
from keptmisses.heights import in_parts, lot_at, start
from keptmisses.levels import SIZES_MULTIPLE
from keptmisses.machines import MOST_LETTERS, allowed, is_chances, is_machine, is_row, misses


def sure_worths(machine, begin):
    """The worths that are sure within n letters, from n = 0 to the first n with which they are above begin at state 0.

    For each n a pair: the dict of the tops for the reached states, and one bottom.
    """
    parts, rules = in_parts(machine, ZERO)
    tops = {state: 0 for state in rules}
    scale = 1
    found = [(tops, parts)]
    while not is_less(begin, (tops[0], parts * scale)):
        if len(found) > MOST_LETTERS:
            raise TooMany(MOST_LETTERS)
        more = {}
        for state, rule in rules.items():
            lot, most = lot_at(rule, parts, tops, scale)
            more[state] = max(0, most * (SIZES_MULTIPLE // len(lot)))
        tops = more
        scale = scale * SIZES_MULTIPLE
        found.append((tops, parts * scale))
    return found


def worst_letter(rule, told, worths):
    """The letter by which most is gained against chances: its worth behind, less its allowance and its chance."""
    tops, bottom = worths
    gains = []
    for chance, (allowance, behind) in zip(told, rule):
        gains.append(total([(tops[behind], bottom), negated(allowance), negated(chance)]))
    best = 0
    for letter, here in enumerate(gains):
        if is_less(gains[best], here):
            best = letter
    return best


def broken_by(machine, begin, function, worths):
    """The pair that a foe finds who asks the function, and is sure to break it by these worths."""
    size, rules = machine
    row = ()
    state = 0
    spare = begin
    # The worth of the state, with the letters left, is above spare all along: in the end 0 is.
    for ahead in reversed(worths[:-1]):
        if spare[0] < 0:
            break
        told = function(row)
        if not is_chances(size, told):
            return ("none", row)
        letter = worst_letter(rules[state], told, ahead)
        allowance, state = rules[state][letter]
        spare = total([spare, allowance, told[letter], (-1, 1)])
        row = row + (letter,)
    return ("broken", row)


def foe(machine, begin, function):
    """A row by which a function breaks its promise to begin with less than the start, or behind which it tells none."""
    least = start(machine)
    if not is_fraction(begin):
        raise NoFraction()
    if least is not None and not is_less(begin, least):
        raise Held()
    return broken_by(machine, begin, function, sure_worths(machine, begin))


def is_more(machine, begin, function, row):
    """Whether a row misses, by what the function tells, more than it is allowed and begin together."""
    size = machine[0]
    told = []
    for place in range(len(row)):
        chances = function(row[:place])
        if not is_chances(size, chances):
            return False
        told.append(chances)
    return is_less(total([allowed(machine, row), begin]), misses(row, tuple(told)))


def is_broken(machine, begin, function, thing):
    """Whether a thing is a pair that shows how the function breaks its promise to begin with so much."""
    if not is_machine(machine):
        raise NoMachine()
    if not is_fraction(begin):
        raise NoFraction()
    if not isinstance(thing, tuple) or len(thing) != 2:
        return False
    word, row = thing
    if not is_row(machine[0], row):
        return False
    if word == "none":
        return not is_chances(machine[0], function(row))
    return word == "broken" and is_more(machine, begin, function, row)

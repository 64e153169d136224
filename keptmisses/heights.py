"""Heights: how much misses may still come to be more than is allowed, from each state on."""

from keptmisses.fraction import ZERO, common, is_fraction, is_less, minus, reduced, solved, top_over
from keptmisses.levels import best_lot, level
from keptmisses.machines import come_to, reached


def worths_at(rule, heights):
    """The worths at a state with this rule: for each letter the height behind it, less its allowance."""
    return tuple([minus(heights[behind], allowance) for allowance, behind in rule])


def is_tuple_of_heights(thing, states):
    """Whether a thing is a tuple of so many fractions from 0 on."""
    if not isinstance(thing, tuple) or len(thing) != states:
        return False
    return all([is_fraction(height) and height[0] >= 0 for height in thing])


def is_heights(machine, thing):
    """Whether a thing is heights of the machine."""
    found = reached(machine)
    rules = machine[1]
    if not is_tuple_of_heights(thing, len(rules)):
        return False
    for state, rule in enumerate(rules):
        if state in found:
            if is_less(thing[state], level(worths_at(rule, thing))):
                return False
        elif thing[state] != ZERO:
            return False
    return True


def in_parts(machine, amount):
    """How many parts are 1, and the rules of the reached states with allowances in parts, each more by an amount."""
    states = reached(machine)
    rules = machine[1]
    _, parts = common([allowance for state in states for allowance, _ in rules[state]] + [amount])
    more = top_over(amount, parts)
    found = {}
    for state in states:
        found[state] = [(top_over(allowance, parts) + more, behind) for allowance, behind in rules[state]]
    return parts, found


def lot_at(rule, parts, tops, scale):
    """The even lot at a rule in parts, and its sum times its size; heights and this sum are in parts, times a scale."""
    return best_lot([tops[behind] - allowance * scale for allowance, behind in rule], parts * scale)


def drawn(rules, lots):
    """For each state with a lot a row of numbers, one for each such state.

    They are the lot's size at the state itself, less 1 for each letter of the lot at the state behind it.
    """
    places = {}
    for state in lots:
        places[state] = len(places)
    rows = []
    for state, lot in lots.items():
        row = [0] * len(places)
        row[places[state]] = len(lot)
        for letter in lot:
            behind = rules[state][letter][1]
            if behind in places:
                row[places[behind]] -= 1
        rows.append(row)
    return rows


def heights_by(rules, parts, lots):
    """What drawing from the lots gains in all from each state, until one without a lot comes; and a scale.

    What is gained is in parts, times the scale.
    """
    rows = []
    for state, row in zip(list(lots), drawn(rules, lots)):
        lot = lots[state]
        gains = (len(lot) - 1) * parts - sum([rules[state][letter][0] for letter in lot])
        rows.append(row + [gains])
    found, scale = solved(rows)
    tops = {state: 0 for state in rules}
    for state, top in zip(list(lots), found):
        tops[state] = top
    return tops, scale


def better_lots(rules, parts, tops, scale):
    """For each state that gains more by a lot, and these heights behind it, than its own height: its even lot."""
    found = {}
    for state, rule in rules.items():
        lot, most = lot_at(rule, parts, tops, scale)
        if most > tops[state] * len(lot):
            found[state] = lot
    return found


def endless_states(rules, lots):
    """The states among which drawing from lots stays, each coming again and again; () if it stops from everywhere."""
    nexts = {}
    for state, rule in rules.items():
        nexts[state] = [rule[letter][1] for letter in lots.get(state, ())]
    closed = []
    for state in rules:
        found = come_to(nexts, state)
        if all([other in lots for other in found]):
            closed.append(found)
    # What is closed and has fewest states has no lesser closed part, so each of its states leads to all of them.
    return min(closed, key=len, default=())


def climbed(machine, amount):
    """The least heights with an amount added to all allowances, and None; or None and a chancer that wins.

    Heights are told by their tops, a dict of the reached states, and one bottom.
    """
    parts, rules = in_parts(machine, amount)
    lots = {}
    tops = {state: 0 for state in rules}
    scale = 1
    # Lots are exchanged only where this gains, so the heights rise and no lots come twice. They are always gained by
    # drawing, and then stopping; so where no lot gains more, they are the least.
    better = better_lots(rules, parts, tops, scale)
    while len(better) > 0:
        lots.update(better)
        # Stopping came from everywhere before; where it no longer does, a lot was exchanged, which gained. So all the
        # shares of this ring's states together gain.
        ring = endless_states(rules, lots)
        if len(ring) > 0:
            return None, tuple([(state, lots[state]) for state in ring])
        tops, scale = heights_by(rules, parts, lots)
        better = better_lots(rules, parts, tops, scale)
    return (tops, parts * scale), None


def least_heights(machine):
    """The heights that are at each state the least of all, or None if there are no heights."""
    heights, _ = climbed(machine, ZERO)
    if heights is None:
        return None
    tops, bottom = heights
    return tuple([reduced(tops.get(state, 0), bottom) for state in range(len(machine[1]))])


def kept(machine):
    """Whether the machine can be kept: whether there are heights."""
    return climbed(machine, ZERO)[0] is not None


def start(machine):
    """The least start with which the machine can be kept, or None if it can't."""
    heights = least_heights(machine)
    return None if heights is None else heights[0]

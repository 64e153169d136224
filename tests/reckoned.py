"""What the tests reckon by themselves, in Python's own fractions and by the words of the points."""

from fractions import Fraction
from itertools import combinations, product

from samples import number, pair


def lots(size):
    """All lots of letters below the size."""
    return [lot for many in range(1, size + 1) for lot in combinations(range(size), many)]


def found_states(machine):
    """The states to which some row leads, in order."""
    found = {0}
    for _ in machine[1]:
        found |= {behind for state in found for _, behind in machine[1][state]}
    return sorted(found)


def draw_gain(machine, state, lot):
    """1 - 1 / size, less the mean allowance of the lot's letters at the state."""
    allowances = [number(machine[1][state][letter][0]) for letter in lot]
    return 1 - Fraction(1, len(lot)) - sum(allowances) / len(lot)


def lot_height(machine, heights, state, lot):
    """What a state's height must be at least, for this lot."""
    behind = [number(heights[machine[1][state][letter][1]]) for letter in lot]
    return draw_gain(machine, state, lot) + sum(behind) / len(lot)


def are_heights(machine, heights):
    """Whether right pairs are heights, lot by lot."""
    found = found_states(machine)
    for state, height in enumerate(heights):
        if number(height) < 0 or state not in found and height != (0, 1):
            return False
        if state in found and any(number(height) < lot_height(machine, heights, state, lot)
                                  for lot in lots(machine[0])):
            return False
    return True


def are_least(machine, heights):
    """Whether heights are gained by a chancer who stops at last, so that nothing less would do at any state."""
    found = found_states(machine)
    gained = [state for state in found if heights[state] == (0, 1)]
    while True:
        more = [state for state in found if state not in gained
                and any(lot_height(machine, heights, state, lot) == number(heights[state])
                        and any(machine[1][state][letter][1] in gained for letter in lot)
                        for lot in lots(machine[0]))]
        if not more:
            return gained == found or sorted(gained) == found
        gained += more


def solution(rows):
    """The one solution of equations, each a list of factors and the right side; None if there isn't just one."""
    rows = [[Fraction(item) for item in row] for row in rows]
    for place in range(len(rows)):
        other = next((other for other in range(place, len(rows)) if rows[other][place] != 0), None)
        if other is None:
            return None
        rows[place], rows[other] = rows[other], rows[place]
        rows[place] = [item / rows[place][place] for item in rows[place]]
        for other in range(len(rows)):
            if other != place:
                factor = rows[other][place]
                rows[other] = [item - factor * part for item, part in zip(rows[other], rows[place])]
    return [row[-1] for row in rows]


def shares_of(machine, chancer):
    """The shares of a chancer, as Python's own fractions."""
    states = [state for state, _ in chancer]
    rows = []
    for place, state in enumerate(states):
        row = [Fraction(0)] * len(states)
        row[place] -= 1
        for other, (origin, lot) in enumerate(chancer):
            row[other] += Fraction([machine[1][origin][letter][1] for letter in lot].count(state), len(lot))
        rows.append(row + [0])
    # One of the balances follows from the other ones; instead of it shares are together 1.
    rows[-1] = [1] * (len(states) + 1)
    return solution(rows)


def gain_of(machine, chancer):
    """The gain of a chancer, as Python's own fraction."""
    return sum(share * draw_gain(machine, state, lot) for share, (state, lot) in zip(shares_of(machine, chancer), chancer))


def come_to(machine, chancer, begin):
    """The states to which a chancer comes from a state by one letter or more, in order."""
    chosen = dict(chancer)
    found = {machine[1][begin][letter][1] for letter in chosen[begin]}
    for _ in machine[1]:
        found |= {machine[1][state][letter][1] for state in found if state in chosen for letter in chosen[state]}
    return sorted(found)


def is_ring(machine, chancer):
    """Whether pairs of ascending reached states and right lots are a chancer."""
    states = [state for state, _ in chancer]
    return all(come_to(machine, chancer, state) == states for state in states)


def all_chancers(machine):
    """All chancers of a machine."""
    found = found_states(machine)
    told = []
    for many in range(1, len(found) + 1):
        for states in combinations(found, many):
            for chosen in product(lots(machine[0]), repeat=many):
                chancer = tuple(zip(states, chosen))
                if is_ring(machine, chancer):
                    told.append(chancer)
    return told


def stopped(machine, chosen):
    """What is gained from each state that draws, until one comes that doesn't; None if that needn't come."""
    states = list(chosen)
    rows = []
    for state in states:
        row = [Fraction(0)] * len(states)
        row[states.index(state)] += 1
        for letter in chosen[state]:
            behind = machine[1][state][letter][1]
            if behind in chosen:
                row[states.index(behind)] -= Fraction(1, len(chosen[state]))
        rows.append(row + [draw_gain(machine, state, chosen[state])])
    gains = solution(rows)
    return None if gains is None else dict(zip(states, gains))


def most_stopped(machine):
    """For each state the most that is gained by drawing and stopping; the least heights, if there are any."""
    found = found_states(machine)
    most = [Fraction(0)] * len(machine[1])
    for choice in product([()] + lots(machine[0]), repeat=len(found)):
        gains = stopped(machine, {state: lot for state, lot in zip(found, choice) if lot})
        for state, gained in (gains or {}).items():
            most[state] = max(most[state], gained)
    return tuple(pair(height) for height in most)


def height_level(worths):
    """The level of worths that are Python's own fractions."""
    return max(sum(worths[letter] for letter in lot) / len(lot) + 1 - Fraction(1, len(lot)) for lot in lots(len(worths)))


def sure_within(machine, most):
    """For each n up to most, W(n, 0) as Python's own fraction."""
    worths = [Fraction(0)] * len(machine[1])
    told = [worths[0]]
    for _ in range(most):
        worths = [max(Fraction(0), height_level([worths[behind] - number(allowance) for allowance, behind in rule]))
                  for rule in machine[1]]
        told.append(worths[0])
    return told


def more_allowed(machine, amount):
    """A machine whose allowances are all more by one of Python's own fractions."""
    return (machine[0], tuple(tuple((pair(number(allowance) + amount), behind) for allowance, behind in rule)
                              for rule in machine[1]))


def some_machine(dice, size, count, draw):
    """A machine of so many states; draw tells an allowance as Python's own fraction."""
    return (size, tuple(tuple((pair(draw(dice)), dice.randrange(count)) for _ in range(size)) for _ in range(count)))


def small(dice):
    """An allowance near those by which a machine can just be kept."""
    bottom = dice.randint(1, 6)
    return Fraction(dice.randint(-bottom, 2 * bottom), bottom)


def halves(dice):
    """An allowance by which much comes out alike."""
    return Fraction(dice.randint(0, 2), 2)


def wide(dice):
    """An allowance with a great bottom."""
    bottom = dice.randint(900, 1000)
    return Fraction(dice.randint(0, bottom), bottom)


def far(dice):
    """An allowance of any bounds that are let."""
    return Fraction(dice.choice([-1000000, 1000000, 999999, -999999, dice.randint(-9, 9)]), dice.choice([1, 997, 1000]))


def near(dice, size, count, enough):
    """A machine whose allowances are just enough for some heights, rounded up; or a little less, rounded down."""
    heights = [Fraction(dice.randint(0, 3000), 1000) for _ in range(count)]
    rules = []
    for height in heights:
        rule = []
        for _ in range(size):
            behind = dice.randrange(count)
            bottom = dice.randint(900, 1000)
            top = (1 - Fraction(1, size) + heights[behind] - height) * bottom
            rule.append((pair(Fraction(-(-top // 1) if enough else top // 1, bottom)), behind))
        rules.append(tuple(rule))
    return (size, tuple(rules))

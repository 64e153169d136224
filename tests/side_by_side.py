"""What the tests reckon by themselves of two that read the same letters: rules as lists of (Fraction, next)."""

from fractions import Fraction
from itertools import product

from reckoned import near, some_machine
from samples import number, pair


def allowing(machine):
    """What a machine allows: for each state and letter (Fraction, next)."""
    return [[(number(allowance), behind) for allowance, behind in rule] for rule in machine[1]]


def missing(guessing):
    """What a guessing machine misses: for each state and letter (Fraction, next)."""
    return [[(1 - number(chance), behind) for chance, behind in zip(chances, nexts)] for chances, nexts in guessing[1]]


def walked(one, other, row, pair_of_states=(0, 0)):
    """By how much the one has more on a row, and the pair of states behind it."""
    more = Fraction(0)
    state, other_state = pair_of_states
    for letter in row:
        amount, state = one[state][letter]
        other_amount, other_state = other[other_state][letter]
        more += amount - other_amount
    return more, (state, other_state)


def found_pairs(one, other):
    """The pairs of states to which some row leads, as they are first come to: rows of fewer letters first."""
    found = [(0, 0)]
    for state, other_state in found:
        for (_, behind), (_, other_behind) in zip(one[state], other[other_state]):
            if (behind, other_behind) not in found:
                found.append((behind, other_behind))
    return found


def has_no_end(one, other):
    """Whether some ring that is come to has more than 0, by the greatest sums between all pairs of states."""
    pairs = found_pairs(one, other)
    most = {}
    for place in pairs:
        for letter in range(len(one[0])):
            more, behind = walked(one, other, (letter,), place)
            most[place, behind] = max(more, most.get((place, behind), more))
    for middle in pairs:
        for begin in pairs:
            for end in pairs:
                if (begin, middle) in most and (middle, end) in most:
                    through = most[begin, middle] + most[middle, end]
                    most[begin, end] = max(through, most.get((begin, end), through))
            if most.get((begin, begin), 0) > 0:
                return True
    return False


def greatest(one, other, many):
    """The greatest sum by which the one has more with at most so many letters, and the earliest row that has it."""
    here = {(0, 0): (Fraction(0), ())}
    best = here[0, 0]
    for _ in range(many):
        there = {}
        for place, (more, row) in here.items():
            for letter in range(len(one[0])):
                step, behind = walked(one, other, (letter,), place)
                told = (more + step, row + (letter,))
                old = there.get(behind, told)
                there[behind] = told if told[0] > old[0] or told[0] == old[0] and told[1] < old[1] else old
        here = there
        most = max(more for more, _ in here.values())
        if most > best[0]:
            best = (most, min(row for more, row in here.values() if more == most))
    return best


def greatest_of_all_rows(one, other, many):
    """The same by trying all rows."""
    best = (Fraction(0), ())
    for letters in range(many + 1):
        for row in product(range(len(one[0])), repeat=letters):
            more, _ = walked(one, other, row)
            if more > best[0]:
                best = (more, row)
    return best


def first_parting(one, other, many):
    """The earliest row of at most so many letters with unlike sums, or None, by trying all rows."""
    for letters in range(many + 1):
        for row in product(range(len(one[0])), repeat=letters):
            if walked(one, other, row)[0] != 0:
                return row
    return None


def check_over(test, told, one, other, judge):
    """Whatever is told of two is right; judge tells whether a triple "endless" holds."""
    pairs = found_pairs(one, other)
    test.assertIsInstance(told, tuple)
    test.assertEqual(len(told), 3)
    if has_no_end(one, other):
        word, ahead, ring = told
        test.assertEqual(word, "endless")
        test.assertTrue(len(ahead) <= 400 and 1 <= len(ring) <= 400)
        _, begin = walked(one, other, ahead)
        more, end = walked(one, other, ring, begin)
        test.assertEqual(begin, end)
        test.assertGreater(more, 0)
        test.assertIs(judge(told), True)
    else:
        more, row = greatest(one, other, len(pairs))
        test.assertEqual(told, ("most", pair(more), row))
        test.assertEqual(told[1], pair(number(told[1])))
        test.assertIs(judge(told), False)


def random_chances(dice, size, most=4):
    """Chances of small numbers, some of them 0."""
    weights = [dice.randint(0, most) for _ in range(size)]
    weights[dice.randrange(size)] += 1
    return tuple(pair(Fraction(weight, sum(weights))) for weight in weights)


def some_guessing(dice, size, count, most=4):
    """A guessing machine of so many states."""
    return (size, tuple((random_chances(dice, size, most), tuple(dice.randrange(count) for _ in range(size)))
                        for _ in range(count)))


def potential(dice, size, count, draw):
    """A machine on which each ring's allowances are those that draw tells for each letter, whatever heights there are."""
    heights = [Fraction(dice.randint(-4, 4), 2) for _ in range(count)]
    rules = []
    for height in heights:
        nexts = [dice.randrange(count) for _ in range(size)]
        rules.append(tuple((pair(draw(dice) + heights[behind] - height), behind) for behind in nexts))
    return (size, tuple(rules))


def machines_of(dice, size, most):
    """A machine of at most so many states, of unlike kinds."""
    count = dice.randint(1, most)
    kind = dice.randrange(3)
    if kind == 0:
        return near(dice, size, count, True)
    if kind == 1:
        return some_machine(dice, size, count, lambda dice: Fraction(dice.randint(0, 4), 4))
    return potential(dice, size, count, lambda dice: Fraction(dice.randint(3, 8), 4))

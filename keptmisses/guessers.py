"""Guessers: the chances by which a machine is kept, whatever letters come."""

from keptmisses.errors import NoLetter, NoState, NothingRead, NotKept
from keptmisses.fraction import ONE, ZERO, minus, negated, total
from keptmisses.heights import least_heights, worths_at
from keptmisses.levels import filled
from keptmisses.machines import is_below, reached, state_after, steps_of


def kept_heights(machine):
    """The least heights of a machine that can be kept."""
    heights = least_heights(machine)
    if heights is None:
        raise NotKept()
    return heights


def all_chances(machine, heights):
    """For each reached state the chances told there, by the least heights."""
    return {state: filled(worths_at(machine[1][state], heights)) for state in reached(machine)}


def chances_at(machine, state):
    """The chances that the guesser tells at a reached state."""
    found = reached(machine)
    if not is_below(state, len(machine[1])) or state not in found:
        raise NoState()
    return filled(worths_at(machine[1][state], kept_heights(machine)))


def guess(machine, row):
    """The chances that the guesser tells ahead of the letter behind a row."""
    return chances_at(machine, state_after(machine, row))


def all_guesses(machine, row):
    """The tuple of the chances that the guesser tells ahead of each letter of a row."""
    states = [0] + [state for _, state in steps_of(machine, row)]
    told = all_chances(machine, kept_heights(machine))
    return tuple([told[state] for state in states[:-1]])


class Guesser:
    """Reads letters, and tells chances ahead of each, by which a machine is kept."""

    def __init__(self, machine):
        heights = kept_heights(machine)
        self._machine = machine
        self._told = all_chances(machine, heights)
        self._letters = []
        self._state = 0
        self._misses = ZERO
        self._spare = heights[0]
        # What stood ahead of each letter that was read: state, misses and spare.
        self._ahead = []

    def chances(self):
        """The chances ahead of the next letter."""
        return self._told[self._state]

    def read(self, letter):
        """Reads a letter, and returns what it misses."""
        size, rules = self._machine
        if not is_below(letter, size):
            raise NoLetter()
        allowance, behind = rules[self._state][letter]
        missed = minus(ONE, self.chances()[letter])
        self._ahead.append((self._state, self._misses, self._spare))
        self._letters.append(letter)
        self._state = behind
        self._misses = total([self._misses, missed])
        self._spare = total([self._spare, allowance, negated(missed)])
        return missed

    def misses(self):
        """What the letters that were read miss in all."""
        return self._misses

    def spare(self):
        """The start and what is allowed, together, less the misses."""
        return self._spare

    def row(self):
        """The letters that were read and not taken back."""
        return tuple(self._letters)

    def state(self):
        """The state behind the letters."""
        return self._state

    def back(self):
        """Takes the last letter back."""
        if len(self._letters) == 0:
            raise NothingRead()
        self._letters.pop()
        self._state, self._misses, self._spare = self._ahead.pop()

    def copy(self):
        """A guesser that has read the same letters, and goes on by itself."""
        twin = Guesser(self._machine)
        twin._letters = list(self._letters)
        twin._state = self._state
        twin._misses = self._misses
        twin._spare = self._spare
        twin._ahead = list(self._ahead)
        return twin

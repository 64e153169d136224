"""Machines compared: by how much one allows more than the other one, for all rows."""

from keptmisses.errors import NoMachine, OtherSize
from keptmisses.fraction import ZERO
from keptmisses.machines import is_machine
from keptmisses.pairs import both_steps, first_rows, is_rise, most_over


def check_machines(one, other):
    """Raises what is due if these aren't two machines of one size."""
    if not is_machine(one) or not is_machine(other):
        raise NoMachine()
    if one[0] != other[0]:
        raise OtherSize()


def over(one, other):
    """By how much one allows more than other at most, and the earliest row of it; or how it allows ever more."""
    check_machines(one, other)
    return most_over(one[1], other[1])


def is_over(one, other, thing):
    """Whether a thing tells rows by which one allows ever more than other: ("endless", ahead, ring)."""
    check_machines(one, other)
    return is_rise(one[0], one[1], other[1], thing)


def parting(one, other):
    """The earliest row for which the machines allow unlike sums, or None."""
    check_machines(one, other)
    # Ahead of its last letter the sums are alike, so they part at a step that is unlike, whatever row leads there.
    for pair, row in first_rows(one[1], other[1]).items():
        for letter, (more, _) in enumerate(both_steps(one[1], other[1], pair)):
            if more != ZERO:
                return row + (letter,)
    return None

"""Machines written as texts, and read from them."""

from keptmisses.errors import NoMachine
from keptmisses.machines import is_machine

# No number of a machine has more signs; a longer one needn't be read.
MOST_SIGNS = 8


def step_text(step):
    """An allowance and the state behind it as a text."""
    (top, bottom), behind = step
    return f"{top}/{bottom}:{behind}"


def machine_text(machine):
    """The text of a machine: a line with its size, and a line for each state."""
    if not is_machine(machine):
        raise NoMachine()
    size, rules = machine
    lines = [f"size {size}"]
    for rule in rules:
        lines.append(" ".join([step_text(step) for step in rule]))
    return "".join([line + "\n" for line in lines])


def read_number(word):
    """The integer that a word of digits tells, with a minus or without; None if no machine could have it."""
    digits = word.removeprefix("-")
    if len(word) > MOST_SIGNS or not digits.isdecimal():
        return None
    return int(word)


def read_step(word):
    """The pair (allowance, next) that a word tells, with None for what is no number."""
    allowance, _, behind = word.partition(":")
    top, _, bottom = allowance.partition("/")
    return ((read_number(top), read_number(bottom)), read_number(behind))


def read_machine(text):
    """The machine whose text this is, or None."""
    if not isinstance(text, str):
        return None
    lines = text.split("\n")
    rules = [tuple([read_step(word) for word in line.split(" ")]) for line in lines[1:-1]]
    machine = (read_number(lines[0].removeprefix("size ")), tuple(rules))
    # What was read too leniently has another text.
    if not is_machine(machine) or machine_text(machine) != text:
        return None
    return machine

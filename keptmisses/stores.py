"""Stores: they guess by machines, and keep on a disk what they read, so that they go on behind falls."""

from keptmisses.disks import Disk, is_pair, noted, opened, rewritten
from keptmisses.errors import Down, NoDeed, NoNumber, NotDown
from keptmisses.fraction import ONE, minus, reduced, total
from keptmisses.guessers import all_chances, chances_at, kept_heights
from keptmisses.heights import kept
from keptmisses.machines import is_machine, is_row

MOST_READ = 40


def with_item(ages, item):
    """The ages behind an item more: a machine, or a row of the last one. Ages are a list of pairs (machine, row)."""
    word, thing = item
    if word == "machine":
        return ages + [(thing, ())]
    machine, row = ages[-1]
    return ages[:-1] + [(machine, row + thing)]


def ages_of(items):
    """The ages that the items of a disk tell."""
    ages = []
    for item in items:
        ages = with_item(ages, item)
    return ages


def items_of_ages(ages):
    """The tuple of the items that tell the ages in which letters were read, and the last one."""
    items = []
    for place, (machine, row) in enumerate(ages):
        if len(row) > 0 or place == len(ages) - 1:
            items.append(("machine", machine))
        if len(row) > 0:
            items.append(("row", row))
    return tuple(items)


def state_behind(machine, row):
    """The state behind a row of any length."""
    state = 0
    for letter in row:
        state = machine[1][state][letter][1]
    return state


def counts(machine, row):
    """How often each letter came at each state, in a row of any length: a dict by pairs (state, letter)."""
    found = {}
    state = 0
    for letter in row:
        found[(state, letter)] = found.get((state, letter), 0) + 1
        state = machine[1][state][letter][1]
    return found


def many_times(many, fraction):
    """So many times a fraction."""
    return reduced(many * fraction[0], fraction[1])


def age_misses(machine, row):
    """What a row of any length misses by what the guesser tells."""
    told = all_chances(machine, kept_heights(machine))
    parts = []
    for (state, letter), many in counts(machine, row).items():
        parts.append(many_times(many, minus(ONE, told[state][letter])))
    return total(parts)


def age_allowed(machine, row):
    """What a row of any length is allowed, and the start, together."""
    parts = [kept_heights(machine)[0]]
    for (state, letter), many in counts(machine, row).items():
        parts.append(many_times(many, machine[1][state][letter][0]))
    return total(parts)


def is_deed(store, thing):
    """Whether a thing is a deed for the store as it stands."""
    if not is_pair(thing):
        return False
    size = store.machine()[0]
    word, what = thing
    if word == "read":
        return is_row(size, what) and 1 <= len(what) <= MOST_READ
    return word == "change" and is_machine(what) and what[0] == size and kept(what)


def item_of(deed):
    """The item by which a disk tells a deed."""
    word, what = deed
    return ("row" if word == "read" else "machine", what)


class Store:
    """Guesses by a machine, and keeps on a disk what it read."""

    def __init__(self, machine):
        kept_heights(machine)
        self._disk = Disk()
        opened(self._disk)
        noted(self._disk, ("machine", machine), None)
        self._ages = [(machine, ())]
        self._up = True

    def _check_up(self):
        """Raises what is due if the store is down."""
        if not self._up:
            raise Down()

    def _check_deed(self, deed):
        """Raises what is due if the store is down, or this is no deed for it."""
        self._check_up()
        if not is_deed(self, deed):
            raise NoDeed()

    def _read_disk(self, up):
        """Tells what the disk tells from now on, and is up or down."""
        # A copy is opened: the disk itself is mended when the store is up again.
        self._ages = ages_of(opened(self._disk.copy()))
        self._up = up

    def do(self, deed):
        """Notes a deed."""
        self._check_deed(deed)
        item = item_of(deed)
        noted(self._disk, item, None)
        self._ages = with_item(self._ages, item)

    def cut(self, deed, most):
        """Falls while a deed is noted, with so many signs of its line written."""
        self._check_deed(deed)
        # All that isn't a number of signs is refused where it is written, but for None: that would be all signs.
        if most is None:
            raise NoNumber()
        noted(self._disk, item_of(deed), most)
        self._read_disk(False)

    def fall(self):
        """Falls."""
        self._check_up()
        self._up = False

    def compact(self, most):
        """Writes the disk anew, and briefly; or falls meanwhile, with so many signs written."""
        self._check_up()
        rewritten(self._disk, items_of_ages(self._ages), most)
        self._read_disk(most is None)

    def rise(self):
        """Goes on behind a fall, by what the disk tells."""
        if self._up:
            raise NotDown()
        opened(self._disk)
        self._read_disk(True)

    def machine(self):
        """The machine that stands."""
        return self._ages[-1][0]

    def ages(self):
        """The list of the pairs (machine, row) of all machines that stood."""
        return list(self._ages)

    def chances(self):
        """The chances ahead of the next letter."""
        machine, row = self._ages[-1]
        return chances_at(machine, state_behind(machine, row))

    def misses(self):
        """What all letters miss in all."""
        return total([age_misses(machine, row) for machine, row in self._ages])

    def allowed(self):
        """What all rows are allowed, and the starts of all machines, together."""
        return total([age_allowed(machine, row) for machine, row in self._ages])

    def up(self):
        """Whether the store is up."""
        return self._up

    def disk(self):
        """A copy of the disk."""
        return self._disk.copy()

    def copy(self):
        """A store that stands alike, and goes on by itself."""
        twin = Store(self.machine())
        twin._disk = self._disk.copy()
        twin._ages = list(self._ages)
        twin._up = self._up
        return twin

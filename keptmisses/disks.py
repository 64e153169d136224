"""Disks: two areas of text, of which one stands, whatever was cut while the other one was written."""

from keptmisses.errors import NoArea, NoItems, NoNumber, NoStand, NoText
from keptmisses.fraction import is_whole
from keptmisses.machines import is_below
from keptmisses.texts import MODULUS, MOST_WHOLE, is_text, is_thing, sealed, unsealed, weight

AREAS = (0, 1)
WHOLE = ("whole",)
# Two less than things: a line's thing is a pair, and so is the entry of an item.
ITEM_DEEP = 28


def check_most(most):
    """Raises what is due if a thing is neither None nor an integer from 0 on."""
    if most is not None and not (is_whole(most) and most >= 0):
        raise NoNumber()


class Disk:
    """Two areas of text."""

    def __init__(self):
        self._areas = ["", ""]

    def __eq__(self, other):
        return isinstance(other, Disk) and self._areas == other._areas

    def area(self, k):
        """The text of an area."""
        if not is_below(k, len(AREAS)):
            raise NoArea()
        return self._areas[k]

    def append(self, k, text, most):
        """Writes a text at the end of an area, or only so many of its signs; returns how many were written."""
        before = self.area(k)
        if not is_text(text):
            raise NoText()
        check_most(most)
        if most is not None:
            text = text[:most]
        self._areas[k] = before + text
        return len(text)

    def clear(self, k):
        """Empties an area."""
        self.shorten(k, 0)

    def shorten(self, k, many):
        """Lets so many signs of an area stay."""
        text = self.area(k)
        if not is_below(many, len(text) + 1):
            raise NoNumber()
        self._areas[k] = text[:many]

    def copy(self):
        """A disk with the same texts, which goes on by itself."""
        twin = Disk()
        twin._areas = list(self._areas)
        return twin


def line_text(entry, ahead):
    """The line of an entry behind a text of lines, which is told by its check."""
    return sealed((ahead, entry)) + "\n"


def check_behind(line, check, ahead):
    """The check of a text of so many signs and a line behind it; the check of the text alone is told."""
    return (check + weight(line, ahead)) % MODULUS


def is_pair(thing):
    """Whether a thing is a tuple of two."""
    return isinstance(thing, tuple) and len(thing) == 2


def counted(text):
    """The list of the entries of the counted lines, how many signs these lines have, and their check."""
    entries = []
    begin = 0
    check = 0
    end = text.find("\n")
    while end >= 0:
        told = unsealed(text[begin:end])
        if told == () or not is_pair(told[0]) or told[0][0] != check:
            break
        entries.append(told[0][1])
        check = check_behind(text[begin:end + 1], check, begin)
        begin = end + 1
        end = text.find("\n", begin)
    return entries, begin, check


def counted_of(text):
    """What counted tells of a thing, if it is a text."""
    if not is_text(text):
        raise NoText()
    return counted(text)


def lines(text):
    """The list of the entries of the counted lines of a text."""
    return counted_of(text)[0]


def rest(text):
    """How many signs the counted lines of a text have."""
    return counted_of(text)[1]


def generation_of(entries):
    """The generation of the area with these entries, or None if it doesn't stand."""
    if WHOLE not in entries[1:] or not is_pair(entries[0]):
        return None
    word, generation = entries[0]
    return generation if word == "area" and is_whole(generation) and generation >= 0 else None


def items_of(entries):
    """The list of the items among entries."""
    return [entry[1] for entry in entries if is_pair(entry) and entry[0] == "item"]


def stand(disk):
    """The area that stands, its generation, and what is counted in it; or None for all if none stands."""
    best = (None, None, None)
    for k in AREAS:
        found = counted(disk.area(k))
        generation = generation_of(found[0])
        if generation is not None and (best[0] is None or generation > best[1]):
            best = (k, generation, found)
    return best


def standing(disk):
    """The area that stands, or None."""
    return stand(disk)[0]


def text_of_lines(entries):
    """The text of the lines of entries, from the begin of an area on."""
    written = []
    ahead = 0
    check = 0
    for entry in entries:
        line = line_text(entry, check)
        check = check_behind(line, check, ahead)
        ahead += len(line)
        written.append(line)
    return "".join(written)


def opened(disk):
    """The list of the items of the standing area; the disk is mended."""
    area, _, found = stand(disk)
    if area is None:
        disk.clear(0)
        disk.clear(1)
        disk.append(0, text_of_lines([("area", 0), WHOLE]), None)
        return []
    entries, end, _ = found
    disk.shorten(area, end)
    disk.clear(1 - area)
    return items_of(entries)


def noted(disk, item, most):
    """Writes an item behind the standing area, or only so many signs of its line; returns how many."""
    if not is_thing(item, ITEM_DEEP):
        raise NoItems()
    check_most(most)
    area, _, found = stand(disk)
    if area is None:
        raise NoStand()
    return disk.append(area, line_text(("item", item), found[2]), most)


def rewritten(disk, items, most):
    """Writes items into the other area as the next generation, or only so many signs; returns how many."""
    if not isinstance(items, tuple) or not all([is_thing(item, ITEM_DEEP) for item in items]):
        raise NoItems()
    check_most(most)
    area, generation, _ = stand(disk)
    if area is None or generation == MOST_WHOLE:
        raise NoStand()
    entries = [("area", generation + 1)] + [("item", item) for item in items] + [WHOLE]
    disk.clear(1 - area)
    return disk.append(1 - area, text_of_lines(entries), most)

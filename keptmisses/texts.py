"""Things as texts, and texts that are sealed, so that they aren't taken for others."""

from keptmisses.errors import BadText, NoText, NoThing
from keptmisses.fraction import is_whole

MOST_DIGITS = 30
MOST_WHOLE = 999999999999999999999999999999
MOST_DEEP = 30
MODULUS = 99991


def is_text(thing):
    """Whether a thing is a text of signs from the blank to ~ and line feeds."""
    return isinstance(thing, str) and thing.isascii() and thing.replace("\n", "").isprintable()


def is_thing(thing, deep):
    """Whether a thing can be written, with tuples nested at most so deep."""
    if isinstance(thing, tuple):
        return deep > 0 and all([is_thing(item, deep - 1) for item in thing])
    if isinstance(thing, str):
        return is_text(thing) and "\n" not in thing
    return thing is None or is_whole(thing) and -MOST_WHOLE <= thing <= MOST_WHOLE


def written(thing):
    """The text of what can be written."""
    if isinstance(thing, tuple):
        return "(" + ",".join([written(item) for item in thing]) + ")"
    if isinstance(thing, str):
        # The own sign of what is written so comes first: later the other one's would be taken for it.
        return "'" + thing.replace("~", "~~").replace("'", "~'") + "'"
    return "." if thing is None else str(thing)


def thing_text(thing):
    """The text of a thing."""
    if not is_thing(thing, MOST_DEEP):
        raise NoThing()
    return written(thing)


def sign_at(text, place):
    """The sign at a place, or the empty string behind the end."""
    return text[place:place + 1]


def read_whole(text, place):
    """The integer whose text begins at a place, and the place behind it."""
    begin = place + 1 if sign_at(text, place) == "-" else place
    if begin == place and sign_at(text, begin) == "0":
        return 0, place + 1
    if not "1" <= sign_at(text, begin) <= "9":
        raise BadText(begin)
    end = begin + 1
    while "0" <= sign_at(text, end) <= "9":
        if end - begin == MOST_DIGITS:
            raise BadText(end)
        end += 1
    return int(text[place:end]), end


def read_signs(text, place):
    """The string whose signs begin at a place, and the place behind its end."""
    signs = []
    sign = sign_at(text, place)
    while sign != "'":
        if sign == "~":
            place += 1
            sign = sign_at(text, place)
            if sign != "'" and sign != "~":
                raise BadText(place)
        if not " " <= sign <= "~":
            raise BadText(place)
        signs.append(sign)
        place += 1
        sign = sign_at(text, place)
    return "".join(signs), place + 1


def read_items(text, place, deep):
    """The tuple whose items begin at a place, and the place behind its end; within it may be tuples so deep."""
    if sign_at(text, place) == ")":
        return (), place + 1
    item, place = read_from(text, place, deep)
    items = [item]
    while sign_at(text, place) == ",":
        item, place = read_from(text, place + 1, deep)
        items.append(item)
    if sign_at(text, place) != ")":
        raise BadText(place)
    return tuple(items), place + 1


def read_from(text, place, deep):
    """The thing whose text begins at a place, and the place behind it, with tuples nested at most so deep."""
    sign = sign_at(text, place)
    if sign == "(" and deep > 0:
        return read_items(text, place + 1, deep - 1)
    if sign == "'":
        return read_signs(text, place + 1)
    if sign == ".":
        return None, place + 1
    return read_whole(text, place)


def read_thing(text):
    """The thing whose text this is."""
    if not isinstance(text, str):
        raise BadText(-1)
    thing, end = read_from(text, 0, MOST_DEEP)
    if end < len(text):
        raise BadText(end)
    return thing


def weight(text, ahead):
    """The sum of all signs' numbers, each times its place, behind so many signs."""
    return sum([place * (ord(sign) - 31) for place, sign in enumerate(text, start=ahead + 1) if sign != "\n"])


def check(text):
    """The number by which a text is checked."""
    if not is_text(text):
        raise NoText()
    return weight(text, 0) % MODULUS


def sealed(thing):
    """The text of a thing with its check."""
    text = thing_text(thing)
    return text + "#" + str(check(text))


def unsealed(text):
    """The tuple of the thing of which this is the sealed text, or the empty one."""
    if not isinstance(text, str):
        return ()
    ahead, _, seal = text.rpartition("#")
    try:
        thing = read_thing(ahead)
    except BadText:
        return ()
    return (thing,) if seal == str(check(ahead)) else ()

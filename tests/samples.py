"""Things that the tests share: right and wrong values, and how to change a value at one place."""

from fractions import Fraction

from keptmisses.errors import MissError

ODDS_AND_ENDS = [None, True, False, 0, 1, 2, -1, 10 ** 30 - 1, "", "machine", "(2, ())", "a\nb", [], {}, (), (0,), (0, 1),
                 [0, 1], {0: 1}, {"size": 2}, ((),), ([],), ({},), MissError(), (MissError(), MissError())]


COIN = (2, ((((1, 2), 0), ((1, 2), 0)),))
TWO = (2, ((((1, 3), 1), ((0, 1), 0)), (((-5, 7), 0), ((1, 1), 1))))
THREE = (3, ((((1000000, 1), 0), ((-1000000, 1), 0), ((1, 1000), 0)),))
FOUR = (4, tuple((((1, 2), (state + 1) % 12), ((-3, 4), 0), ((0, 1), 11), ((999999, 1000), state))
                 for state in range(12)))
SIX = (3, ((((1, 1), 1), ((0, 1), 2), ((2, 3), 1)), (((1, 1), 0), ((1, 1), 1), ((1, 1), 2)),
           (((1, 5), 2), ((1, 5), 2), ((1, 5), 2)), (((0, 1), 4), ((0, 1), 0), ((0, 1), 0)),
           (((0, 1), 5), ((0, 1), 5), ((0, 1), 5)), (((0, 1), 3), ((0, 1), 3), ((0, 1), 3))))
MACHINES = [COIN, TWO, THREE, FOUR, SIX]
CHANCES = {2: [((1, 2), (1, 2)), ((1, 1), (0, 1)), ((0, 1), (1, 1)), ((10 ** 29 - 1, 10 ** 29), (1, 10 ** 29))],
           3: [((1, 2), (1, 3), (1, 6)), ((0, 1), (0, 1), (1, 1)), ((1, 3), (1, 3), (1, 3))],
           4: [((1, 4), (1, 4), (1, 4), (1, 4)), ((0, 1), (2, 5), (3, 5), (0, 1)), ((1, 7), (1, 5), (1, 3), (34, 105))]}


def steps(size, count, state=0):
    """A machine of so many alike rules, all leading to one state."""
    return (size, ((((1, 2), state),) * size,) * count)


def nested(kind, depth):
    """A thing nested so deep, of tuples, lists or dicts."""
    thing = 0
    for _ in range(depth):
        if kind == "tuple":
            thing = (thing,)
        elif kind == "pair":
            thing = (2, thing)
        elif kind == "list":
            thing = [thing]
        else:
            thing = {"in": thing}
    return thing


def never_right():
    """Things that are no machine, no worths, no told chances of one letter, and no size."""
    deep = [nested(kind, 30) for kind in ("tuple", "pair", "list", "dict")]
    wide = [tuple(range(20000)), [0] * 20000, ((0, 1),) * 6000, "x" * 20000]
    return [thing for thing in ODDS_AND_ENDS if thing != 2] + deep + wide


def at(thing, path):
    """What stands in nested tuples at a path of indexes."""
    for index in path:
        thing = thing[index]
    return thing


def put(thing, path, value):
    """A thing like this one with another value at the path of indexes."""
    if not path:
        return value
    items = list(thing)
    items[path[0]] = put(items[path[0]], path[1:], value)
    return tuple(items)


def tuple_paths(thing, path=()):
    """The paths to all tuples within nested tuples, the outermost too."""
    if not isinstance(thing, tuple):
        return []
    found = [path]
    for index, item in enumerate(thing):
        found += tuple_paths(item, path + (index,))
    return found


def integer_paths(thing, path=()):
    """The paths to all integers within nested tuples."""
    if not isinstance(thing, tuple):
        return [path]
    found = []
    for index, item in enumerate(thing):
        found += integer_paths(item, path + (index,))
    return found


def relengthened(thing, but=()):
    """Things like this one with a tuple that is longer or shorter by one, but for the tuples at some paths."""
    found = []
    for path in tuple_paths(thing):
        inner = at(thing, path)
        if path not in but:
            found += [put(thing, path, inner[:-1]), put(thing, path, inner + inner[-1:]), put(thing, path, ())]
    return found


def misshaped(thing):
    """Things like this one with no tuple where one should be."""
    found = []
    for path in tuple_paths(thing):
        inner = at(thing, path)
        for other in (list(inner), dict(enumerate(inner)), str(inner), None, True, 0, inner[0]):
            found.append(put(thing, path, other))
    return found


def unnumbered(thing):
    """Things like this one with something else than an integer in place of one of them."""
    found = []
    for path in integer_paths(thing):
        for other in (None, str(at(thing, path)), (at(thing, path),), [at(thing, path)], {}):
            found.append(put(thing, path, other))
    return found


def flagged(thing):
    """Things like this one with the flag that equals it in place of one 0 or 1."""
    return [put(thing, path, bool(at(thing, path))) for path in integer_paths(thing) if at(thing, path) in (0, 1)]


def number(fraction):
    """A pair as a number of Python's own."""
    return Fraction(fraction[0], fraction[1])


def pair(value):
    """A number of Python's own as a pair."""
    value = Fraction(value)
    return (value.numerator, value.denominator)


class Unchanged:
    """Within it nothing that was handed in may change."""

    def __init__(self, test, *things):
        self.test = test
        self.things = things

    def __enter__(self):
        self.before = repr(self.things)

    def __exit__(self, kind, value, trace):
        if kind is None:
            self.test.assertEqual(repr(self.things), self.before)

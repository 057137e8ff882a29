"""What the tests share: things of any kind, sample beliefs, and a case that watches what is handed in."""

import copy
import random
import unittest
from fractions import Fraction

from beliefsets.errors import BeliefError

# Any things, none of which is a fraction, a set, a belief or names.
ODD_THINGS = (
    None, True, False, "", "a", "1/2", "(1, 2)", -1, -64, 64, 10 ** 599, -(10 ** 599),
    (), [], [()], ((),), (None,), (None, None), ("1", "2"), (1,), (1, 2, 3), [1, 2], [[1, 2]],
    (True, 2), (1, True), (False, 1), (0, False), (True, True), (2, 4), (0, 2), (1, 0), (1, -2), (-1, -2),
    (0, 0), (0, -1), ((1, 2), (1, 2)), ([1, 2],), ("1/2",), (1, None), (None, 1), ("a", 1), (1, "a"), ((1,), 2),
)


def deep(many):
    """A thing with many tuples and lists within one another."""
    thing = 1
    for step in range(many):
        thing = (thing,) if step % 2 == 0 else [thing]
    return thing


def long_thing():
    return tuple([(k, (1, 2)) for k in range(25000)])


def as_number(one):
    return Fraction(one[0], one[1])


def as_pair(number):
    return (number.numerator, number.denominator)


def cases(some):
    """A set as a frozenset of its cases, told by its figures, not by the package."""
    return frozenset(k for k, figure in enumerate(reversed(bin(some)[2:])) if figure == "1")


def number_of(some):
    return sum(2 ** k for k in some)


def as_map(belief):
    """A belief as a dict from frozensets of cases to Fractions."""
    return {cases(some): as_number(share) for some, share in belief}


def as_belief(mapping):
    """The belief of a dict from frozensets to Fractions, noughts left out."""
    rows = [(number_of(some), as_pair(share)) for some, share in mapping.items() if share != 0]
    return tuple(sorted(rows))


def sample(chance, n, many=None, must=(), without=(), most=9999):
    """A belief of n cases with many sets; the sets of must among them, none of without."""
    free = [some for some in range(2 ** n) if some not in must and some not in without]
    if many is None:
        many = chance.randint(1, 16)
    picked = list(must) + chance.sample(free, max(0, min(many - len(must), len(free))))
    if not picked:
        picked = [chance.choice(free)]
    weights = [chance.randint(1, max(1, most // len(picked))) for some in picked]
    return tuple(sorted((some, as_pair(Fraction(w, sum(weights)))) for some, w in zip(picked, weights)))


def samples(seed, n, many):
    """Many beliefs of n cases: with clash, closed, wide, of one set, of all sets."""
    chance = random.Random(seed)
    everything = 2 ** n - 1
    found = [((0, (1, 1)),), ((everything, (1, 1)),), tuple((some, (1, 2 ** n)) for some in range(2 ** n))]
    for k in range(many):
        must = [some for some in (0, everything) if chance.randint(0, 1)]
        found.append(sample(chance, n, must=must))
        found.append(sample(chance, n, without=[0]))
    return found


def alike(one, other):
    """Whether two things are the same, kinds too: True is no 1, a list no tuple."""
    if type(one) is not type(other):
        return False
    if isinstance(one, (list, tuple)):
        return len(one) == len(other) and all(alike(a, b) for a, b in zip(one, other))
    return one == other


def otherwise(thing):
    """Things that might be taken for a thing and are others: of its kind, and of other kinds."""
    found = [None, "", str(thing), [thing], (thing,), deep(60)]
    if isinstance(thing, tuple):
        found += [list(thing), (), [], thing + (0,), thing + thing[-1:], thing[:-1], thing[1:], thing[::-1]]
    elif isinstance(thing, str):
        found += [thing + " ", thing.upper(), thing[:-1], 0, True, ("some",), "all", "some"]
    else:
        found += [thing + 1, thing - 1, -thing, 10 ** 599, -(10 ** 599), 6, 64, False, True, bool(thing)]
    return [one for one in found if not alike(one, thing)]


def spoiled(thing):
    """A thing with one thing in it otherwise, in each place, itself too, and in each of several ways."""
    yield from otherwise(thing)
    if isinstance(thing, tuple):
        for k, inner in enumerate(thing):
            for one in spoiled(inner):
                yield thing[:k] + (one,) + thing[k + 1:]


def is_plain_number(thing, low, high):
    """Whether a thing is an int, no truth, from low to below high."""
    return type(thing) is int and low <= thing < high


class Case(unittest.TestCase):
    """Asks functions, and looks each time whether what was handed in stayed as it was."""

    def ask(self, function, *told):
        kept = copy.deepcopy(told)
        try:
            return function(*told)
        finally:
            self.assertTrue(alike(told, kept), "what was handed in was changed")

    def tells(self, wanted, function, *told):
        found = self.ask(function, *told)
        self.assertTrue(alike(found, wanted), f"{function.__name__}{told!r:.300}: {found!r:.300}, not {wanted!r:.300}")

    def refuses(self, error, fields, function, *told):
        with self.assertRaises(BeliefError) as caught:
            self.ask(function, *told)
        self.assertIs(type(caught.exception), error, f"{function.__name__}{told!r:.300}")
        for name in fields:
            self.assertTrue(alike(getattr(caught.exception, name), fields[name]), f"{name} of {caught.exception!r}")

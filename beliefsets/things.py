"""Things of several values each, scopes of them, and pieces: beliefs about the rows of a scope."""

from beliefsets.beliefs import is_belief, silent
from beliefsets.finer import coarser, finer
from beliefsets.fractions import is_whole
from beliefsets.joining import both
from beliefsets.sets import NONE, is_rising_row


def is_things(thing):
    """Whether any thing is THINGS: a tuple of one to six numbers of values, each 2 or 3."""
    if not isinstance(thing, tuple) or not 1 <= len(thing) <= 6:
        return False
    return all([is_whole(many) and 2 <= many <= 3 for many in thing])


def is_scope(things, thing):
    """Whether any thing is a SCOPE of things."""
    return is_rising_row(len(things), thing)


def rows_of(things, scope):
    """The rows of a scope, rising: the tuples with a value for each of its things."""
    rows = [()]
    for number in scope:
        rows = [row + (value,) for row in rows for value in range(things[number])]
    return tuple(rows)


def how_many_rows(things, scope):
    """How many rows a scope has."""
    many = 1
    for number in scope:
        many = many * things[number]
    return many


def is_piece(things, thing):
    """Whether any thing is a PIECE of things."""
    if not isinstance(thing, tuple) or len(thing) != 2 or not is_scope(things, thing[0]):
        return False
    return is_belief(how_many_rows(things, thing[0]), thing[1])


def silent_piece(things, scope):
    """The piece of a scope that says nothing."""
    return (scope, silent(how_many_rows(things, scope)))


def cells_of(things, inner, outer):
    """For each row of a scope the set of the rows of a wider one whose part it is: a map of rows to sets of rows."""
    places = [outer.index(number) for number in inner]
    found = {}
    for at, row in enumerate(rows_of(things, outer)):
        part = tuple([row[place] for place in places])
        found[part] = found.get(part, NONE) | (1 << at)
    return tuple([found[part] for part in rows_of(things, inner)])


def widened(things, piece, scope):
    """A piece told on a scope that its own is within."""
    return (scope, finer(cells_of(things, piece[0], scope), piece[1]))


def narrowed(things, piece, scope):
    """A piece told on a scope within its own."""
    return (scope, coarser(cells_of(things, scope, piece[0]), piece[1]))


def together(things, one, other):
    """Two pieces put together on the scope of the things of either."""
    scope = tuple(sorted(set(one[0]) | set(other[0])))
    return (scope, both(widened(things, one, scope)[1], widened(things, other, scope)[1]))


def everything(things, pieces):
    """All pieces of a list put together."""
    whole = silent_piece(things, ())
    for piece in pieces:
        whole = together(things, whole, piece)
    return whole

"""The tree checker: whether a paper's tree is one for pieces, and what it tells along it; it seeks nothing."""

from beliefsets.errors import NoPaper
from beliefsets.fractions import is_below
from beliefsets.sets import is_rising_row
from beliefsets.things import is_piece, is_scope, narrowed, silent_piece, together

MOST_BUNCHES = 6
MOST_THINGS = 3


def look_at_shape(many, thing):
    """Refuses any thing that is no tuple of so many tuples, the first of one to six bunches."""
    if not isinstance(thing, tuple) or len(thing) != many or not all([isinstance(part, tuple) for part in thing]):
        raise NoPaper("shape", -1)
    if not 1 <= len(thing[0]) <= MOST_BUNCHES:
        raise NoPaper("shape", -1)


def look_at_bunches(things, bunches):
    """Refuses bunches, any things, of which one is no scope of at most three things."""
    for k, bunch in enumerate(bunches):
        if not is_scope(things, bunch) or len(bunch) > MOST_THINGS:
            raise NoPaper("bunch", k)


def is_edge(many, thing):
    """Whether any thing is a tuple (i, j) of numbers of so many bunches, i below j."""
    return is_rising_row(many, thing) and len(thing) == 2


def look_at_edges(many, edges):
    """Refuses edges, any things, that are not those of a tree of so many bunches."""
    groups = list(range(many))
    ahead = (-1, -1)
    for k, edge in enumerate(edges):
        if not is_edge(many, edge) or edge <= ahead:
            raise NoPaper("edge", k)
        one, other = groups[edge[0]], groups[edge[1]]
        if one == other:
            raise NoPaper("edge", k)
        groups = [one if group == other else group for group in groups]
        ahead = edge
    # Edges without a ring leave one bunch after another to come to: all are come to by just so many.
    if len(edges) < many - 1:
        raise NoPaper("edge", len(edges))


def look_at_things(things, bunches, edges):
    """Refuses a tree in which the bunches with some thing don't hang together."""
    for number in range(len(things)):
        holders = [k for k, bunch in enumerate(bunches) if number in bunch]
        between = [edge for edge in edges if edge[0] in holders and edge[1] in holders]
        # Among edges without a ring there are one fewer than holders just where these hang together.
        if len(between) < len(holders) - 1:
            raise NoPaper("thing", number)


def is_home(scope, bunches, thing):
    """Whether any thing is the number of a bunch that a scope is within."""
    return is_below(len(bunches), thing) and all([number in bunches[thing] for number in scope])


def look_at_homes(pieces, bunches, homes):
    """Refuses homes, any things, that are not, one for each piece, bunches that have its scope within them."""
    for k, (scope, shares) in enumerate(pieces):
        if k >= len(homes) or not is_home(scope, bunches, homes[k]):
            raise NoPaper("home", k)
    if len(homes) > len(pieces):
        raise NoPaper("home", len(pieces))


def look_at_tree(things, pieces, tree):
    """Refuses a tuple of three tuples that is no TREE for pieces."""
    bunches, edges, homes = tree
    look_at_bunches(things, bunches)
    look_at_edges(len(bunches), edges)
    look_at_things(things, bunches, edges)
    look_at_homes(pieces, bunches, homes)


def ends_of(edges, number):
    """The bunch that tells a message, by its number, and the one that is told it."""
    lesser, greater = edges[number // 2]
    return (lesser, greater) if number & 1 == 0 else (greater, lesser)


def shared_scope(bunches, one, other):
    """The things that two bunches share, a scope."""
    return tuple([number for number in bunches[one] if number in bunches[other]])


def goes_into(edges, number, bunch, aside):
    """Whether a message is told to a bunch, by another one than one aside."""
    teller, hearer = ends_of(edges, number)
    return hearer == bunch and teller != aside


def put_together_at(things, pieces, tree, messages, bunch, aside):
    """What a bunch has of its own, and of all messages to it but that of the bunch aside, put together."""
    bunches, edges, homes = tree
    at_home = [piece for piece, home in zip(pieces, homes) if home == bunch]
    told = [message for k, message in enumerate(messages) if goes_into(edges, k, bunch, aside)]
    whole = silent_piece(things, bunches[bunch])
    for piece in at_home + told:
        whole = together(things, whole, piece)
    return whole


def message_by(things, pieces, tree, messages, number):
    """The message of a number, by the messages that go into it."""
    bunches, edges, homes = tree
    teller, hearer = ends_of(edges, number)
    whole = put_together_at(things, pieces, tree, messages, teller, hearer)
    return narrowed(things, whole, shared_scope(bunches, teller, hearer))


def answer_by(things, pieces, tree, messages, bunch):
    """What a bunch answers, by the messages to it."""
    return put_together_at(things, pieces, tree, messages, bunch, None)


def look_at_pieces(things, scopes, rows, first):
    """Refuses rows, any things, that are not one piece for each of some scopes; numbered from first on."""
    for k, scope in enumerate(scopes):
        if k >= len(rows) or not is_piece(things, rows[k]) or rows[k][0] != scope:
            raise NoPaper("piece", first + k)
    if len(rows) > len(scopes):
        raise NoPaper("piece", first + len(scopes))


def look_at_all_pieces(things, bunches, edges, messages, answers):
    """Refuses messages and answers, any things, that are not pieces of the scopes that are due there."""
    scopes = [shared_scope(bunches, edge[0], edge[1]) for edge in edges]
    look_at_pieces(things, [scope for scope in scopes for way in range(2)], messages, 0)
    look_at_pieces(things, bunches, answers, 2 * len(edges))


def lets_tree(things, pieces, thing):
    """True where any thing is a TREE PAPER for pieces, else NoPaper."""
    look_at_shape(5, thing)
    bunches, edges, homes, messages, answers = thing
    tree = (bunches, edges, homes)
    look_at_tree(things, pieces, tree)
    look_at_all_pieces(things, bunches, edges, messages, answers)
    for k, message in enumerate(messages):
        if message != message_by(things, pieces, tree, messages, k):
            raise NoPaper("message", k)
    for k, answer in enumerate(answers):
        if answer != answer_by(things, pieces, tree, messages, k):
            raise NoPaper("answer", k)
    return True

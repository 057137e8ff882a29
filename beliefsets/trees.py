"""Trees told for pieces, and tree papers told along trees."""

from beliefsets.errors import TooMany
from beliefsets.treechecker import MOST_THINGS, answer_by, ends_of, goes_into, is_home, look_at_shape, look_at_tree
from beliefsets.treechecker import message_by


def with_neighbours(scopes, number):
    """A thing and all that stand in a scope with it, a rising tuple."""
    others = [other for scope in scopes if number in scope for other in scope]
    return tuple(sorted(set([number] + others)))


def without(scope, number):
    """A scope without a thing."""
    return tuple([other for other in scope if other != number])


def next_to_leave(scopes, left):
    """A thing that has, with all that stand in a scope with it, room in a bunch; TooMany where there is none."""
    for number in left:
        if len(with_neighbours(scopes, number)) <= MOST_THINGS:
            return number
    raise TooMany()


def leaving(things, pieces):
    """An order in which all things leave, and the bunch of each: it with its neighbours as it leaves.

    Its neighbours stand in one scope from then on: they stand in a bunch together. While there is a tree, there is a
    thing with at most two neighbours, and whichever leaves, there is a tree for what is left.
    """
    scopes = [scope for scope, shares in pieces]
    left = list(range(len(things)))
    order, bunches = [], []
    while left != []:
        number = next_to_leave(scopes, left)
        bunch = with_neighbours(scopes, number)
        scopes = [without(scope, number) for scope in scopes + [bunch]]
        left.remove(number)
        order.append(number)
        bunches.append(bunch)
    return order, bunches


def edge_from(order, bunches, k):
    """The edge from a bunch, but the last, to that of its next thing to leave, or, where it has none, to the next."""
    later = [order.index(number) for number in bunches[k] if number != order[k]]
    return (k, min(later, default=k + 1))


def home_in(bunches, scope):
    """The first bunch that has a scope within it."""
    return [k for k in range(len(bunches)) if is_home(scope, bunches, k)][0]


def tree_for(things, pieces):
    """A TREE for pieces, or TooMany where there is none."""
    order, bunches = leaving(things, pieces)
    edges = [edge_from(order, bunches, k) for k in range(len(bunches) - 1)]
    homes = [home_in(bunches, scope) for scope, shares in pieces]
    return (tuple(bunches), tuple(edges), tuple(homes))


def is_ready(edges, waiting, number):
    """Whether no message that goes into one is still waiting."""
    teller, hearer = ends_of(edges, number)
    return not any([goes_into(edges, other, teller, hearer) for other in waiting])


def messages_along(things, pieces, tree):
    """All messages along a tree, a list, each told behind those that go into it."""
    edges = tree[1]
    messages = [None] * (2 * len(edges))
    waiting = list(range(len(messages)))
    while waiting != []:
        ready = [number for number in waiting if is_ready(edges, waiting, number)]
        for number in ready:
            messages[number] = message_by(things, pieces, tree, messages, number)
        waiting = [number for number in waiting if number not in ready]
    return messages


def tree_paper(things, pieces, tree):
    """A TREE PAPER for pieces with just this tree, or NoPaper, of any thing as a tree."""
    look_at_shape(3, tree)
    look_at_tree(things, pieces, tree)
    messages = messages_along(things, pieces, tree)
    answers = [answer_by(things, pieces, tree, messages, k) for k in range(len(tree[0]))]
    return tree + (tuple(messages), tuple(answers))

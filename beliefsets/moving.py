"""Moves told: moves by which one belief comes of another or a family that shows it doesn't, and moves joined."""

from beliefsets.fractions import NOUGHT, fraction, on_one_bottom
from beliefsets.sets import is_within


def tops_by_sets(one, other):
    """The tops of two beliefs' shares over one bottom, each a dict by its sets, and that bottom."""
    tops, bottom = on_one_bottom([share for some, share in one + other])
    ones = dict(zip([some for some, share in one], tops))
    others = dict(zip([some for some, share in other], tops[len(one):]))
    return ones, others, bottom


def ways_back(lacks, left, sent):
    """Seeks a source that has some left for a target that lacks some, perhaps by way of what is sent already.

    A target is come to where it lacks some, else from a source that sends it some (which could send that elsewhere);
    a source from a target that is within it. Told are that source, or None, and, for each target and each source that
    was come to, from where. The shortest way is found first: so there are not many ways to find.
    """
    to_targets = {target: None for target in lacks if lacks[target] > 0}
    to_sources = {}
    queue = list(to_targets)
    while queue != []:
        reached = []
        for target in queue:
            for source in [some for some in left if some not in to_sources and is_within(target, some)]:
                to_sources[source] = target
                if left[source] > 0:
                    return source, to_sources, to_targets
                for served in [some for some in lacks if some not in to_targets and sent.get((source, some), 0) > 0]:
                    to_targets[served] = source
                    reached.append(served)
        queue = reached
    return None, to_sources, to_targets


def way_from(source, to_sources, to_targets):
    """The way from a source to a target that lacks: tuples (source, target), more to be sent by each."""
    way = []
    while source is not None:
        target = to_sources[source]
        way.append((source, target))
        source = to_targets[target]
    return way


def send_along(way, lacks, left, sent):
    """Sends as much as can be along a way; lacks, left and sent are the caller's own."""
    # Each source but the first takes from the target ahead of it what it now sends to its own.
    taken = [(later[0], ahead[1]) for ahead, later in zip(way, way[1:])]
    first, last = way[0][0], way[-1][1]
    most = min([left[first], lacks[last]] + [sent[pair] for pair in taken])
    for pair in way:
        sent[pair] = sent.get(pair, 0) + most
    for pair in taken:
        sent[pair] = sent[pair] - most
    left[first] = left[first] - most
    lacks[last] = lacks[last] - most


def as_moves(sent, bottom):
    """The moves of what is sent, a dict of tops by (from, to), noughts left out."""
    return tuple([(pair[0], pair[1], fraction(sent[pair], bottom)) for pair in sorted(sent) if sent[pair] > 0])


def moved_paper(n, one, other):
    """A moved paper, that one belief comes of another one or doesn't."""
    lacks, left, bottom = tops_by_sets(one, other)
    sent = {}
    source, to_sources, to_targets = ways_back(lacks, left, sent)
    while source is not None:
        send_along(way_from(source, to_sources, to_targets), lacks, left, sent)
        source, to_sources, to_targets = ways_back(lacks, left, sent)
    if to_targets == {}:
        return ("moves", as_moves(sent, bottom))
    # No source come to has any left, and all that these send goes to targets come to, of which one lacks some.
    return ("lacks", tuple(sorted(to_targets)))


def drawn(waiting, top):
    """Draws a top from a list of (source, top), the caller's own: what is drawn from each source, a list."""
    found = []
    while top > 0:
        source, part = waiting.pop()
        most = min(part, top)
        found.append((source, most))
        if part > most:
            waiting.append((source, part - most))
        top = top - most
    return found


def joined_moves(first, later):
    """Moves of a belief that lead to where moves lead (later) of the belief to which its first ones lead."""
    tops, bottom = on_one_bottom([share for source, target, share in first + later])
    waiting = {}
    for (source, between, share), top in zip(first, tops):
        waiting.setdefault(between, []).append((source, top))
    sent = {}
    for (between, target, share), top in zip(later, tops[len(first):]):
        for source, part in drawn(waiting[between], top):
            sent[(source, target)] = sent.get((source, target), 0) + part
    return as_moves(sent, bottom)


def pointed(levels):
    """The belief with the set of each single case at its level, noughts left out."""
    return tuple([(1 << case, level) for case, level in enumerate(levels) if level != NOUGHT])

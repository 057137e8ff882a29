"""Tales told: the rows that rules make of pieces, and claims of just what they tell."""

from beliefsets.errors import NoElder, NoPaper, TooMany
from beliefsets.finer import coarser, finer
from beliefsets.joining import both, cleaned, either
from beliefsets.rules import cases_by
from beliefsets.tables import told_at
from beliefsets.taking import taken
from beliefsets.weaker import weaker

# The least number of more than forty figures.
TOO_LONG = 10 ** 40


def made_by(pieces, ahead, rule, n):
    """The belief of n cases that a rule makes that can stand there, or NoElder."""
    word, number = rule[0], rule[1]
    if word == "piece":
        return pieces[number][1]
    belief = ahead[number][1]
    if word == "weaker":
        return weaker(n, belief, rule[2])
    if word == "finer":
        return finer(rule[2], belief)
    if word == "coarser":
        return coarser(rule[2], belief)
    if word == "cleaned":
        return cleaned(belief)
    other = ahead[rule[2]][1]
    if word == "taken":
        return taken(n, belief, other)
    return both(belief, other) if word == "both" else either(belief, other)


def is_too_long(belief):
    """Whether a share has a top or a bottom of more than forty figures."""
    # A share's top has no more figures than its bottom.
    return any([share[1] >= TOO_LONG for some, share in belief])


def row_by(pieces, ahead, rule):
    """The row that any thing as a rule makes behind the rows ahead, as a tuple (n, belief)."""
    n = cases_by(pieces, ahead, rule)
    if n is None:
        raise NoPaper("rule", len(ahead))
    try:
        belief = made_by(pieces, ahead, rule, n)
    except NoElder:
        raise NoPaper("rule", len(ahead)) from None
    if is_too_long(belief):
        raise TooMany()
    return (n, belief)


def tale_of(pieces, rules, asked):
    """The tale for pieces by rules, with a claim for each tuple (word, row, set) that is asked."""
    ahead = []
    for rule in rules:
        ahead.append(row_by(pieces, ahead, rule))
    rows = [(rule, n, belief) for rule, (n, belief) in zip(rules, ahead)]
    claims = [(word, number, some, told_at(word, ahead[number][1], some)) for word, number, some in asked]
    return (tuple(rows), tuple(claims))

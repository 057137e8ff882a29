"""Gains beaten by others: papers of it, and the gains of a list that none beats."""

from beliefsets.bets import gain_paper, gained_by_rows, lets_gain
from beliefsets.fractions import on_one_bottom
from beliefsets.spreads import is_laying


def gains_less(one, other):
    """Gains less others, case by case."""
    return tuple([gain - less for gain, less in zip(one, other)])


def is_no_gain(n, belief, gains, thing):
    """Whether any thing is a laying of a closed belief by whose levels nothing is gained, or less."""
    if not is_laying(n, belief, thing):
        return False
    tops, bottom = on_one_bottom(gained_by_rows(thing, gains))
    return sum(tops) <= 0


def lets_beaten(n, belief, one, other, thing):
    """Whether any thing is a beaten paper, for a closed belief, that one gains are beaten by others or not."""
    if not isinstance(thing, tuple) or len(thing) not in (2, 3):
        return False
    gains = gains_less(other, one)
    if len(thing) == 2:
        return thing[0] == "not" and is_no_gain(n, belief, gains, thing[1])
    # The paper is let by first: only then what stands in it is surely a fraction.
    return thing[0] == "beaten" and lets_gain(n, belief, gains, "least", thing[1:]) and thing[1][0] > 0


def beaten_paper(n, belief, one, other):
    """A beaten paper, for a closed belief, that one gains are beaten by others or not."""
    gain, laying = gain_paper(n, belief, gains_less(other, one), "least")
    return ("beaten", gain, laying) if gain[0] > 0 else ("not", laying)


def is_beaten(n, belief, one, other):
    """Whether, for a closed belief, one gains are beaten by others."""
    return beaten_paper(n, belief, one, other)[0] == "beaten"


def unbeaten(n, belief, rows):
    """The numbers of the gains of a list that none of the list beats, a rising list."""
    return [k for k, one in enumerate(rows) if not any([is_beaten(n, belief, one, other) for other in rows])]

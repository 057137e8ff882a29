"""Clash: whether closed pieces all clash, and papers that show it."""

from beliefsets.beliefs import core_of
from beliefsets.fractions import is_below, is_whole
from beliefsets.sets import NONE, all_cases, cases_in, has_case, is_rising_row, sets_within, size_of


def shared_core(n, cores):
    """The cases that are in each of some cores, all n where there are none."""
    shared = all_cases(n)
    for core in cores:
        shared = shared & core
    return shared


def cores_but(cores, numbers, number):
    """The cores of numbers, that of one number aside."""
    return [cores[other] for other in numbers if other != number]


def is_case_of_all(n, cores, thing):
    """Whether any thing is a case that is in each of some cores."""
    return is_below(n, thing) and has_case(shared_core(n, cores), thing)


def is_lacking(n, cores, numbers, thing):
    """Whether any thing is a tuple with, for each case, one of numbers whose core lacks it."""
    if not isinstance(thing, tuple) or len(thing) != n:
        return False
    for case, number in enumerate(thing):
        # A truth is found among numbers, too: so the kind is asked ahead of that.
        if not is_whole(number) or number not in numbers or has_case(cores[number], case):
            return False
    return True


def is_needed(n, cores, numbers, thing):
    """Whether any thing is a tuple with, for each of numbers, a case that all others' cores have."""
    if not isinstance(thing, tuple) or len(thing) != len(numbers):
        return False
    pairs = list(zip(numbers, thing))
    return all([is_case_of_all(n, cores_but(cores, numbers, number), case) for number, case in pairs])


def lets_clash(n, pieces, thing):
    """Whether any thing is a paper of clash of closed pieces."""
    cores = [core_of(piece) for piece in pieces]
    if not isinstance(thing, tuple):
        return False
    if len(thing) == 2 and thing[0] == "some":
        return is_case_of_all(n, cores, thing[1])
    if len(thing) != 4 or thing[0] != "all":
        return False
    word, numbers, lacking, needed = thing
    if not is_rising_row(len(cores), numbers) or numbers == ():
        return False
    return is_lacking(n, cores, numbers, lacking) and is_needed(n, cores, numbers, needed)


def least_numbers(n, cores):
    """Numbers of as few cores as can be, rising, such that no case is in each; all cores are such."""
    # Numbers are in rows of numbers as cases are in sets, so sets stand for the rows here.
    rows = sorted(sets_within(all_cases(len(cores))), key=size_of)
    clashing = [row for row in rows if shared_core(n, [cores[k] for k in cases_in(row)]) == NONE]
    return cases_in(clashing[0])


def first_lacking(cores, numbers, case):
    """The first of numbers whose core lacks a case."""
    return [number for number in numbers if not has_case(cores[number], case)][0]


def clash_paper(n, pieces):
    """A paper of clash of closed pieces."""
    cores = [core_of(piece) for piece in pieces]
    shared = shared_core(n, cores)
    if shared != NONE:
        return ("some", cases_in(shared)[0])
    numbers = least_numbers(n, cores)
    lacking = [first_lacking(cores, numbers, case) for case in range(n)]
    needed = [cases_in(shared_core(n, cores_but(cores, numbers, number)))[0] for number in numbers]
    return ("all", tuple(numbers), tuple(lacking), tuple(needed))

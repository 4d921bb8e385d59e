"""Papers: claims for the checker, each with its certificate."""

from guardhopes.checker import BREAKS, FAILS, HOLDS, INSIDE, JAMS, NOT_AGAIN, NOT_STAYS, PARTED, SAME, STEP
from guardhopes.kinds import AGAIN, STAYS, turning
from guardhopes.likeness import breaking, lasso_from, parting
from guardhopes.living import EVEN, ODD, OPEN, arrows_of, colours_of, verdict
from guardhopes.mends import LIKE, holds, machine_told
from guardhopes.runs import state_behind
from guardhopes.steps import jam


def pair_paper(kept, lost, one, other, shown):
    """The paper with the word for machines for which nothing was shown, or else with the other word and what was."""
    if shown is None:
        return (kept, str(one), str(other)), ()
    return (lost, str(one), str(other)), shown


def lasso_behind(machine, word, evenness):
    """A lasso that begins with an open beginning, in the wish if an even colour is to come again, else not in it."""
    state = state_behind(machine, 0, word)
    start, turn = lasso_from(machine.letters, arrows_of(machine), state, [(colours_of(machine), evenness)])
    return word + start, turn


def certify_pair(one, other):
    """The paper that two machines are alike, or that they are not."""
    return pair_paper(SAME, PARTED, one, other, parting(one, other))


def certify_within(one, other):
    """The paper that the first machine lies within the second one, or that it does not."""
    return pair_paper(INSIDE, BREAKS, one, other, breaking(one, other))


def certify_step(one, other):
    """The paper that two machines are in step, or that they are not."""
    return pair_paper(STEP, JAMS, one, other, jam(one, other))


def certify_open(machine, word):
    """The paper that a beginning is open, or bad, or good."""
    told = verdict(machine, word)
    if told != OPEN:
        return (HOLDS, str(machine), (told, word)), ()
    return (OPEN, str(machine), word), (lasso_behind(machine, word, EVEN), lasso_behind(machine, word, ODD))


def certify(machine, demand):
    """The paper that a demand on the machine holds, or that it does not."""
    if holds(machine, demand):
        return (HOLDS, str(machine), demand), ()
    word = demand[0]
    if word == AGAIN:
        return (NOT_AGAIN, str(machine)), turning(machine, AGAIN)
    if word == STAYS:
        return (NOT_STAYS, str(machine)), turning(machine, STAYS)
    if word == LIKE:
        return (PARTED, str(machine), demand[1]), parting(machine, machine_told(demand[1]))
    return (FAILS, str(machine), demand), ()

"""The checker: it looks at each claim and its certificate anew, whoever wrote them."""

from guardhopes.likeness import alike, within
from guardhopes.living import EVEN, ODD, OPEN
from guardhopes.mends import holds, is_demand, machine_told
from guardhopes.runs import is_endless, is_spelled, is_word, state_behind, states_along, takes
from guardhopes.steps import in_step, is_jam

HOLDS = "holds"
FAILS = "fails"
SAME = "same"
INSIDE = "inside"
STEP = "step"
PARTED = "parted"
BREAKS = "breaks"
JAMS = "jams"
NOT_AGAIN = "notagain"
NOT_STAYS = "notstays"


def is_empty(value):
    """Whether a value is the certificate of claims that need none."""
    return isinstance(value, tuple) and len(value) == 0


def shows_turning(machine, value, evenness):
    """Whether a value is a triple of words that shows a loop of this evenness within one of the other evenness."""
    if not isinstance(value, tuple) or len(value) != 3:
        return False
    if not all([is_spelled(machine.letters, word) for word in value]):
        return False
    start, turn, around = value
    state = state_behind(machine, 0, start)
    if len(turn) == 0 or state_behind(machine, state, turn) != state:
        return False
    if len(around) == 0 or state_behind(machine, state, around) != state:
        return False
    low = max([machine.states[k][0] for k in states_along(machine, state, turn)])
    high = max([machine.states[k][0] for k in states_along(machine, state, around)])
    return low < high and low % 2 == evenness and high % 2 != evenness


def shows_open(machine, word, value):
    """Whether a value is a pair of lassos that begin with the word, the first one in the wish, the second one not."""
    if not is_word(machine.letters, word) or not isinstance(value, tuple) or len(value) != 2:
        return False
    if not all([is_endless(machine.letters, lasso) and lasso[0].startswith(word) for lasso in value]):
        return False
    return takes(machine, value[0]) and not takes(machine, value[1])


def accepts_one(word, machine, certificate):
    """Whether a claim that tells a machine alone is shown."""
    if word == NOT_AGAIN:
        return shows_turning(machine, certificate, EVEN)
    return word == NOT_STAYS and shows_turning(machine, certificate, ODD)


def accepts_demand(word, machine, demand, certificate):
    """Whether a demand on the machine holds, or fails, as the word tells."""
    if not is_empty(certificate) or not is_demand(machine, demand):
        return False
    return holds(machine, demand) == (word == HOLDS)


def accepts_pair(word, one, other, certificate):
    """Whether a claim that tells two machines with the same letters is shown."""
    if word == SAME:
        return is_empty(certificate) and alike(one, other)
    if word == INSIDE:
        return is_empty(certificate) and within(one, other)
    if word == STEP:
        return is_empty(certificate) and in_step(one, other)
    if word == JAMS:
        return is_spelled(one.letters, certificate) and is_jam(one, other, certificate)
    if not is_endless(one.letters, certificate):
        return False
    if word == PARTED:
        return takes(one, certificate) != takes(other, certificate)
    return word == BREAKS and takes(one, certificate) and not takes(other, certificate)


def accepts(claim, certificate):
    """True if the one is a claim for the checker and the other one is a certificate for it; otherwise False."""
    if not isinstance(claim, tuple) or not 2 <= len(claim) <= 3 or not isinstance(claim[0], str):
        return False
    word = claim[0]
    machine = machine_told(claim[1])
    if machine is None:
        return False
    if len(claim) == 2:
        return accepts_one(word, machine, certificate)
    if word in (HOLDS, FAILS):
        return accepts_demand(word, machine, claim[2], certificate)
    if word == OPEN:
        return shows_open(machine, claim[2], certificate)
    other = machine_told(claim[2])
    if other is None or other.letters != machine.letters:
        return False
    return accepts_pair(word, machine, other, certificate)

"""Where words lead to, and which endless runs lie in the wish of a machine."""

from guardhopes.errors import InvalidLasso, InvalidWord
from guardhopes.limits import MOST_WORD
from guardhopes.machines import check_machine


def is_word(machine, value):
    """Whether a value is a word of the machine that is not too long."""
    if not isinstance(value, str) or len(value) > MOST_WORD:
        return False
    return all([letter in machine.letters for letter in value])


def is_lasso(machine, value):
    """Whether a value is a lasso of the machine with words that are not too long."""
    if not isinstance(value, tuple) or len(value) != 2:
        return False
    start, turn = value
    return is_word(machine, start) and is_word(machine, turn) and len(turn) > 0


def states_along(machine, state, word):
    """The list of the states that the letters of a word of any length lead to from a state on."""
    along = []
    for letter in word:
        following = machine.states[state][1]
        state = following[machine.letters.find(letter)]
        along.append(state)
    return along


def state_behind(machine, state, word):
    """The state to which a word of any length leads from a state on."""
    return [state, *states_along(machine, state, word)][-1]


def greatest_again(machine, lasso):
    """The greatest colour that comes again and again on a lasso with words of any length."""
    start, turn = lasso
    # Behind as many rounds as there are states, the states at which rounds begin come again and
    # again; as many rounds more go through all that comes between them.
    rounds = turn * len(machine)
    state = state_behind(machine, 0, start + rounds)
    return max([machine.states[k][0] for k in states_along(machine, state, rounds)])


def state_after(machine, word):
    """The number of the state to which a word leads."""
    check_machine(machine)
    if not is_word(machine, word):
        raise InvalidWord(word)
    return state_behind(machine, 0, word)


def lies_in(machine, lasso):
    """Whether the endless run of a lasso lies in the wish of the machine."""
    check_machine(machine)
    if not is_lasso(machine, lasso):
        raise InvalidLasso(lasso)
    return greatest_again(machine, lasso) % 2 == 0

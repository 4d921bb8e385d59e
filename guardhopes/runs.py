"""Where words lead to, and which endless runs lie in the wish of a machine."""

from guardhopes.errors import InvalidLasso, InvalidWord
from guardhopes.limits import MOST_WORD
from guardhopes.machines import check_machine


def is_spelled(letters, value):
    """Whether a value is a word, of any length, of some letters."""
    return isinstance(value, str) and all([letter in letters for letter in value])


def is_word(letters, value):
    """Whether a value is a word of some letters that is not too long."""
    return is_spelled(letters, value) and len(value) <= MOST_WORD


def is_endless(letters, value):
    """Whether a value is a lasso of some letters with words of any length."""
    if not isinstance(value, tuple) or len(value) != 2:
        return False
    start, turn = value
    return is_spelled(letters, start) and is_spelled(letters, turn) and len(turn) > 0


def is_lasso(letters, value):
    """Whether a value is a lasso of some letters with words that are not too long."""
    return is_endless(letters, value) and all([len(word) <= MOST_WORD for word in value])


def states_along(machine, state, word):
    """The list of the states that the letters of a word of any length lead to from a state on."""
    along = []
    for letter in word:
        following = machine.states[state][1]
        state = following[machine.letters.find(letter)]
        along.append(state)
    return along


def state_behind(machine, state, word):
    """The state to which a word of any length leads from a state on."""
    return [state, *states_along(machine, state, word)][-1]


def takes(machine, lasso):
    """Whether the endless run of a lasso with words of any length lies in the wish of the machine."""
    start, turn = lasso
    # Behind as many rounds as there are states, the states at which rounds begin come again and
    # again; as many rounds more go through all that comes between them.
    rounds = turn * len(machine)
    state = state_behind(machine, 0, start + rounds)
    return max([machine.states[k][0] for k in states_along(machine, state, rounds)]) % 2 == 0


def state_after(machine, word):
    """The number of the state to which a word leads."""
    check_machine(machine)
    if not is_word(machine.letters, word):
        raise InvalidWord(word)
    return state_behind(machine, 0, word)


def lies_in(machine, lasso):
    """Whether the endless run of a lasso lies in the wish of the machine."""
    check_machine(machine)
    if not is_lasso(machine.letters, lasso):
        raise InvalidLasso(lasso)
    return takes(machine, lasso)

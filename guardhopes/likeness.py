"""Whether two wishes are alike, or one lies within the other one, and lassos that show that not."""

from guardhopes.errors import OtherLetters
from guardhopes.living import EVEN, ODD, loops_as_asked, words_from
from guardhopes.machines import check_machine


def check_pair(one, other):
    """Raises NotAMachine for what is no Machine, and OtherLetters if the letters of the two are not the same."""
    check_machine(one)
    check_machine(other)
    if one.letters != other.letters:
        raise OtherLetters(other)


def pair_arrows(one, other):
    """The rows of arrows of two machines that go on together.

    The pairs of their states are numbered with those of the other machine within those of the one.
    """
    many = len(other)
    return [
        [low * many + high for low, high in zip(state[1], beside[1])]
        for state in one.states for beside in other.states]


def pair_colours(one, other):
    """The colours that two machines that go on together have at their pairs: those of the one, those of the other."""
    pairs = [(state[0], beside[0]) for state in one.states for beside in other.states]
    return [pair[0] for pair in pairs], [pair[1] for pair in pairs]


def top_of(colours, loop):
    """The first number of a loop that has its greatest colour."""
    top = max([colours[k] for k in loop])
    return [k for k in loop if colours[k] == top][0]


def word_round(letters, arrows, loop, stops):
    """A word, not empty, that leads from the first stop through all stops and back, by the loop only."""
    word, state = [(letter, k) for letter, k in zip(letters, arrows[stops[0]]) if k in loop][0]
    for stop in (*stops[1:], stops[0]):
        word = word + words_from(letters, arrows, state, loop)[stop]
        state = stop
    return word


def lasso_from(letters, arrows, begin, asked):
    """A lasso from a number on whose greatest colours that come again are as asked; None if there is none."""
    words = words_from(letters, arrows, begin, list(range(len(arrows))))
    loops = loops_as_asked(arrows, list(words), asked)
    if not loops:
        return None
    loop = loops[0]
    stops = [loop[0], *[top_of(pair[0], loop) for pair in asked]]
    return words[loop[0]], word_round(letters, arrows, loop, stops)


def lasso_between(one, other, evenness, beside):
    """A lasso whose greatest colours that come again and again in the two machines are so; None if there is none."""
    colours, others = pair_colours(one, other)
    return lasso_from(one.letters, pair_arrows(one, other), 0, [(colours, evenness), (others, beside)])


def breaking(one, other):
    """Any lasso that lies in the first wish and not in the second one; None if there is none."""
    check_pair(one, other)
    return lasso_between(one, other, EVEN, ODD)


def within(one, other):
    """Whether all endless runs that lie in the first wish lie in the second one."""
    return breaking(one, other) is None


def parting(one, other):
    """Any lasso that lies in just one of the two wishes; None if they are alike."""
    check_pair(one, other)
    lasso = lasso_between(one, other, EVEN, ODD)
    return lasso_between(one, other, ODD, EVEN) if lasso is None else lasso


def alike(one, other):
    """Whether the same endless runs lie in both wishes."""
    return parting(one, other) is None

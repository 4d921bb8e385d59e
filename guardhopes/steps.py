"""Whether two wishes get in each other's way."""

from guardhopes.likeness import check_pair, pair_arrows, pair_colours
from guardhopes.living import EVEN, first_word_to, leading_to, live, loops_as_asked
from guardhopes.runs import state_behind


def stuck_pairs(one, other):
    """The list of the pairs to which jams lead: not dead for the one, and without a run from there in both wishes."""
    arrows = pair_arrows(one, other)
    colours, others = pair_colours(one, other)
    loops = loops_as_asked(arrows, list(range(len(arrows))), [(colours, EVEN), (others, EVEN)])
    free = leading_to(arrows, [k for loop in loops for k in loop])
    living = live(one)
    return [k for k in range(len(arrows)) if k // len(other) in living and k not in free]


def is_jam(one, other, word):
    """Whether a word, of any length, is a jam."""
    pair = state_behind(one, 0, word) * len(other) + state_behind(other, 0, word)
    return pair in stuck_pairs(one, other)


def jam(one, other):
    """A shortest jam, the first one in alphabetical order; None if there is none."""
    check_pair(one, other)
    return first_word_to(one.letters, pair_arrows(one, other), 0, stuck_pairs(one, other))


def in_step(one, other):
    """Whether each beginning that is not bad for the first wish can go on to a run that lies in both."""
    return jam(one, other) is None

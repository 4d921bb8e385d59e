"""The kinds of wishes, and how many colours they need."""

from guardhopes.likeness import top_of, word_round
from guardhopes.living import EVEN, ODD, arrows_of, check_wanted, colours_of, first_words, live, loops_as_asked, reached
from guardhopes.living import sure
from guardhopes.machines import check_machine
from guardhopes.parts import recoloured

AGAIN = "again"
STAYS = "stays"


def has_loop(machine, states, evenness):
    """Whether there is an even, or an odd loop of some states."""
    return len(loops_as_asked(arrows_of(machine), states, [(colours_of(machine), evenness)])) > 0


def nested_loops(machine, inner, outer):
    """Two loops of unlike evenness of which the first one lies in the second one; None if there are none."""
    arrows = arrows_of(machine)
    colours = colours_of(machine)
    for around in loops_as_asked(arrows, reached(machine), [(colours, outer)]):
        for loop in loops_as_asked(arrows, around, [(colours, inner)]):
            return loop, around
    return None


def is_guard(machine):
    """Whether each endless run that does not lie in the wish has a bad beginning."""
    check_machine(machine)
    living = live(machine)
    return not has_loop(machine, [state for state in reached(machine) if state in living], ODD)


def is_hope(machine):
    """Whether no beginning is bad."""
    check_machine(machine)
    living = live(machine)
    return all([state in living for state in reached(machine)])


def is_promise(machine):
    """Whether the opposite of the wish is a guard: each endless run in the wish has a good beginning."""
    check_machine(machine)
    safe = sure(machine)
    return not has_loop(machine, [state for state in reached(machine) if state not in safe], EVEN)


def comes_again(machine):
    """Whether no even loop lies in an odd one."""
    check_machine(machine)
    return nested_loops(machine, EVEN, ODD) is None


def does_stay(machine):
    """Whether no odd loop lies in an even one."""
    check_machine(machine)
    return nested_loops(machine, ODD, EVEN) is None


def is_duty(machine):
    """Whether no even loop lies in an odd one, and no odd one in an even one."""
    return comes_again(machine) and does_stay(machine)


def depth(machine):
    """The greatest colour that a machine needs that tells the wish."""
    check_machine(machine)
    return max(colours_of(recoloured(machine)))


def turning(machine, wanted):
    """Words that show that the wish does not come again, or does not stay; None if it does.

    They are a triple: a word to a state, one round from there within a loop, one round through the loop around it.
    """
    check_machine(machine)
    check_wanted(wanted, (AGAIN, STAYS))
    nested = nested_loops(machine, EVEN, ODD) if wanted == AGAIN else nested_loops(machine, ODD, EVEN)
    if nested is None:
        return None
    arrows = arrows_of(machine)
    colours = colours_of(machine)
    state = nested[0][0]
    rounds = [word_round(machine.letters, arrows, loop, [state, top_of(colours, loop)]) for loop in nested]
    return first_words(machine)[state], rounds[0], rounds[1]

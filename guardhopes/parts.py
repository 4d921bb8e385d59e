"""The guard and the hope of a wish, its opposite, and its least colours."""

from guardhopes.living import arrows_of, colours_of, dead, greatest_loops, reached, words_from
from guardhopes.machines import Machine, check_machine


def with_colours(machine, colours):
    """The machine with the same letters and next states, and with other colours."""
    return Machine(machine.letters, tuple([(colours[k], state[1]) for k, state in enumerate(machine.states)]))


def groups_of(arrows, marks):
    """For each number the first one of those from which all words lead to the same marks."""
    groups = marks
    # Words that are shorter than there are numbers tell all of them apart that can be told apart.
    for _ in arrows:
        told = [(groups[k], [groups[following] for following in arrows[k]]) for k in range(len(arrows))]
        groups = [told.index(row) for row in told]
    return groups


def least_colours(arrows, colours, numbers):
    """The least colours that give each loop of some numbers its evenness, as a dict; 0 outside of all loops."""
    least = {k: 0 for k in numbers}
    for loop in greatest_loops(arrows, numbers):
        top = max([colours[k] for k in loop])
        below = least_colours(arrows, colours, [k for k in loop if colours[k] < top])
        most = max([0, *list(below.values())])
        # The least number from there on that is even or odd as the top is.
        least_top = most + (most + top) % 2
        for k in loop:
            least[k] = below.get(k, least_top)
    return least


def guard(machine):
    """The machine of the guard of the wish, with the fewest states, numbered as they are met first."""
    check_machine(machine)
    lost = dead(machine)
    marks = [1 if k in lost else 0 for k in range(len(machine))]
    groups = groups_of(arrows_of(machine), marks)
    arrows = [[groups[k] for k in row] for row in arrows_of(machine)]
    order = list(words_from(machine.letters, arrows, groups[0], groups))
    states = [(marks[k], tuple([order.index(following) for following in arrows[k]])) for k in order]
    return Machine(machine.letters, tuple(states))


def hope(machine):
    """The machine of the hope of the wish: the same one, but with the colour 0 at all dead states."""
    check_machine(machine)
    lost = dead(machine)
    return with_colours(machine, [0 if k in lost else colour for k, colour in enumerate(colours_of(machine))])


def opposite(machine):
    """A machine of the opposite wish, with the same next states."""
    check_machine(machine)
    # Each evenness is turned; the least colours then bring a 7 back to what a machine can have.
    turned = [colour + 1 for colour in colours_of(machine)]
    least = least_colours(arrows_of(machine), turned, list(range(len(machine))))
    return with_colours(machine, [least[k] for k in range(len(machine))])


def recoloured(machine):
    """A machine of the same wish, with the same next states and colours from 0 to the depth of the wish."""
    check_machine(machine)
    # States that are not reached may need greater colours than the wish, and tell nothing of it.
    least = least_colours(arrows_of(machine), colours_of(machine), reached(machine))
    return with_colours(machine, [least.get(k, 0) for k in range(len(machine))])

"""Live and sure states, and the verdicts on beginnings.

Rows of arrows stand for a machine, or for several that go on together: the row of a number has, in the order of
the letters, the numbers to which the letters lead. Loops are told as lists of such numbers.
"""

from guardhopes.errors import InvalidVerdict
from guardhopes.machines import check_machine
from guardhopes.runs import state_after

EVEN = 0
ODD = 1
BAD = "bad"
GOOD = "good"
OPEN = "open"


def check_wanted(value, words):
    """Raises InvalidVerdict for what is none of the words that can be wanted."""
    if not isinstance(value, str) or value not in words:
        raise InvalidVerdict(value)


def arrows_of(machine):
    """The rows of arrows of a machine."""
    return [state[1] for state in machine.states]


def colours_of(machine):
    """The list of the colours of a machine."""
    return [state[0] for state in machine.states]


def words_from(letters, arrows, begin, inside):
    """For each number to which a word leads from one on, by numbers inside only, the first such word.

    Shorter words come first, equally long ones in alphabetical order; the dict has the numbers in this order.
    """
    words = {begin: ""}
    order = [begin]
    at = 0
    while at < len(order):
        number = order[at]
        row = arrows[number]
        for letter, following in zip(letters, row):
            if following in inside and following not in words:
                words[following] = words[number] + letter
                order.append(following)
        at += 1
    return words


def first_words(machine):
    """For each reached state the first word that leads to it, in the order of these words."""
    return words_from(machine.letters, arrows_of(machine), 0, list(range(len(machine))))


def first_word_to(letters, arrows, begin, goals):
    """The first word, perhaps the empty one, that leads from a number on to one of the goals; None if none does."""
    words = words_from(letters, arrows, begin, list(range(len(arrows))))
    found = [word for number, word in words.items() if number in goals]
    return found[0] if found else None


def reached(machine):
    """The list of the reached states, in the order of the first words that lead to them."""
    return list(first_words(machine))


def leading_to(arrows, goals):
    """The ascending list of the numbers from which a word, perhaps the empty one, leads to one of the goals."""
    leads = [number in goals for number in range(len(arrows))]
    # No shortest way has more letters than there are numbers.
    for _ in arrows:
        leads = [leads[number] or any([leads[k] for k in arrows[number]]) for number in range(len(arrows))]
    return [number for number in range(len(arrows)) if leads[number]]


def bits_ahead(arrows, numbers):
    """For each of some numbers the bits of those to which one or more letters lead it, by these numbers only."""
    bits = {}
    for number in numbers:
        bits[number] = sum([1 << k for k in numbers if k in arrows[number]])
    for between in numbers:
        for number in numbers:
            if bits[number] >> between & 1:
                bits[number] = bits[number] | bits[between]
    return bits


def greatest_loops(arrows, numbers):
    """The loops of some numbers that lie in no greater loop of them, each in the order of the numbers."""
    bits = bits_ahead(arrows, numbers)
    found = []
    for number in numbers:
        loop = [k for k in numbers if bits[number] >> k & bits[k] >> number & 1]
        # Each loop is told once, by the first of its numbers; what leads nowhere back gives none.
        if loop and loop[0] == number:
            found.append(loop)
    return found


def without_wrong_top(loop, asked):
    """The loop itself if it is as asked, else what is left of it without a greatest colour that is wrong."""
    for colours, evenness in asked:
        top = max([colours[k] for k in loop])
        if top % 2 != evenness:
            return [k for k in loop if colours[k] < top]
    return loop


def loops_as_asked(arrows, numbers, asked):
    """Loops of some numbers that are as asked, such that each loop that is so lies in one of them.

    What is asked is a list of pairs of colours and EVEN or ODD: so is the greatest of these colours to be.
    """
    found = []
    waiting = [numbers]
    while waiting:
        rest = waiting.pop()
        for loop in greatest_loops(arrows, rest):
            left = without_wrong_top(loop, asked)
            if len(left) == len(loop):
                found.append(loop)
            else:
                # A loop with a wrong greatest colour is no loop that is asked for, so none that is has that colour.
                waiting.append(left)
    return found


def leading_to_loops(machine, evenness):
    """The ascending list of the states from which a word leads to an even, or to an odd loop."""
    arrows = arrows_of(machine)
    loops = loops_as_asked(arrows, list(range(len(machine))), [(colours_of(machine), evenness)])
    return leading_to(arrows, [k for loop in loops for k in loop])


def live(machine):
    """The ascending tuple of the live states, reached or not."""
    check_machine(machine)
    return tuple(leading_to_loops(machine, EVEN))


def sure(machine):
    """The ascending tuple of the sure states, reached or not."""
    check_machine(machine)
    unsure = leading_to_loops(machine, ODD)
    return tuple([k for k in range(len(machine)) if k not in unsure])


def dead(machine):
    """The ascending list of the dead states, reached or not."""
    living = live(machine)
    return [k for k in range(len(machine)) if k not in living]


def verdict_at(machine, state):
    """The verdict on the beginnings that lead to a state."""
    if state in dead(machine):
        return BAD
    return GOOD if state in sure(machine) else OPEN


def nearest_word(machine, state, wanted):
    """A shortest word from a state to what is bad, or good, the first one in alphabetical order; None if none is."""
    check_wanted(wanted, (BAD, GOOD))
    goals = dead(machine) if wanted == BAD else sure(machine)
    return first_word_to(machine.letters, arrows_of(machine), state, goals)


def verdict(machine, word):
    """Whether a beginning is bad, good or open for the wish."""
    return verdict_at(machine, state_after(machine, word))


def shortest(machine, wanted):
    """A shortest beginning that is bad, or good, the first one in alphabetical order; None if there is none."""
    check_machine(machine)
    return nearest_word(machine, 0, wanted)


def is_watchable(machine):
    """Whether each beginning can go on to a bad or a good one."""
    check_machine(machine)
    told = leading_to(arrows_of(machine), [*dead(machine), *sure(machine)])
    return all([state in told for state in reached(machine)])

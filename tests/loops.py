"""Slow looks at machines, written anew from the document, and machines to try things with."""

from itertools import combinations, product

from guardhopes.machines import Machine
from tests.values import numbers_from, parts_of_machines, some_values


class Twin:
    """Looks like a machine and is none."""

    letters = "ab"
    states = ((0, (0, 0)),)

    def __len__(self):
        return 1


def no_machines():
    return [*some_values(), "machine ab\nstate 0 0 0", ((0, (0, 0)),), ("ab", ((0, (0, 0)),)), Machine, Twin()]


def words_up_to(letters, length):
    """All words up to a length, the shorter ones first, equally long ones in alphabetical order."""
    return ["".join(word) for many in range(length + 1) for word in product(letters, repeat=many)]


def word_of(letters, numbers, length):
    return "".join(letters[next(numbers) % len(letters)] for _ in range(length))


def lassos_of(letters, numbers, many):
    return [
        (word_of(letters, numbers, next(numbers) % 7), word_of(letters, numbers, 1 + next(numbers) % 8))
        for _ in range(many)]


def behind(machine, word, state=0):
    for letter in word:
        state = machine.states[state][1][machine.letters.index(letter)]
    return state


def goes_to(arrows, begin, inside):
    """All numbers to which one letter or more lead from one on, by those inside only."""
    found = set()
    waiting = [begin]
    while waiting:
        for k in arrows[waiting.pop()]:
            if k in inside and k not in found:
                found.add(k)
                waiting.append(k)
    return found


def arrows_in(machine):
    return [state[1] for state in machine.states]


def reached_in(machine):
    return {0} | goes_to(arrows_in(machine), 0, range(len(machine)))


def loops_in(arrows, numbers):
    """All loops of some numbers: the sets of them each of whose members leads to each by members only."""
    found = []
    for many in range(1, len(numbers) + 1):
        for loop in combinations(sorted(numbers), many):
            if all(goes_to(arrows, k, loop) == set(loop) for k in loop):
                found.append(frozenset(loop))
    return found


def top_in(machine, loop):
    return max(machine.states[k][0] for k in loop)


def all_loops(machine):
    """The even and the odd loops of all states, reached or not."""
    loops = loops_in(arrows_in(machine), range(len(machine)))
    return [[loop for loop in loops if top_in(machine, loop) % 2 == k] for k in (0, 1)]


def reached_loops(machine):
    """The even and the odd loops, as the document tells loops."""
    reached = reached_in(machine)
    return [[loop for loop in loops if loop <= reached] for loops in all_loops(machine)]


def leads(machine, state, loops):
    """Whether some word, perhaps the empty one, leads from the state to one of the loops."""
    on = {state} | goes_to(arrows_in(machine), state, range(len(machine)))
    return any(on & loop for loop in loops)


def live_in(machine):
    even, _ = all_loops(machine)
    return tuple(k for k in range(len(machine)) if leads(machine, k, even))


def sure_in(machine):
    _, odd = all_loops(machine)
    return tuple(k for k in range(len(machine)) if not leads(machine, k, odd))


def depth_in(machine):
    """The longest rows of loops, each in the next one, evenness by turns, tell the depth."""
    even, odd = reached_loops(machine)
    worth = {}
    for loop in sorted(even + odd, key=len):
        evenness = 0 if loop in even else 1
        below = [worth[k] for k in worth if k < loop]
        worth[loop] = max([evenness, *(k + (k + evenness) % 2 for k in below)])
    return max(worth.values())


def mixed_machines(many, seed):
    """Machines of one to six states, one to three letters and all colours, of many shapes."""
    numbers = numbers_from(seed)
    machines = []
    for letters, states in parts_of_machines(many, seed):
        count = len(states)
        shape = next(numbers) % 4
        low, high = ((0, 6), (0, 1), (1, 2), (0, 2), (1, 6), (3, 5))[next(numbers) % 6]
        made = []
        for k, (_, following) in enumerate(states):
            colour = low + next(numbers) % (high - low + 1)
            if shape == 1:
                # Mostly on, so that there are many loops behind one another.
                following = tuple(min(max(k, to), count - 1) for to in following)
            if shape == 2:
                # Mostly near by, so that many states are reached.
                following = tuple((k + to % 3 - 1) % count for to in following)
            if shape == 3 and k == 0:
                # Some states that are not reached.
                following = tuple(to % max(1, count // 2) for to in following)
            made.append((colour, following))
        machines.append(Machine(letters, tuple(made)))
    return machines


def ladder(letters, colours):
    """A machine that goes up and down by its letters, so that each row of neighbours is a loop."""
    last = len(colours) - 1
    steps = [
        tuple((min(k + 1, last), max(k - 1, 0), k)[place % 3] for place in range(len(letters)))
        for k in range(len(colours))]
    return Machine(letters, tuple(zip(colours, steps)))


def renumbered(machine, numbers):
    """The same machine with other numbers of its states, but that of the first one."""
    order = list(range(1, len(machine)))
    for k in range(len(order)):
        other = next(numbers) % len(order)
        order[k], order[other] = order[other], order[k]
    order = [0, *order]
    states = [
        (machine.states[k][0], tuple(order.index(to) for to in machine.states[k][1])) for k in order]
    return Machine(machine.letters, tuple(states))


def shifted(machine):
    """The same wish with colours that are less, or greater, by two."""
    colours = [state[0] for state in machine.states]
    step = 2 if max(colours) <= 4 else -2 if min(colours) >= 2 else 0
    return Machine(machine.letters, tuple((colour + step, to) for colour, to in machine.states))


def twinned(machine, numbers):
    """The same wish with one state more, which is as another one is, if there is room for it."""
    if len(machine) == 6:
        return machine
    like = next(numbers) % len(machine)
    states = [
        (colour, tuple(len(machine) if k == like and next(numbers) % 2 else k for k in to))
        for colour, to in [*machine.states, machine.states[like]]]
    return Machine(machine.letters, tuple(states))


def with_more(machine, numbers):
    """The same wish with one state more that is not reached, if there is room for it."""
    if len(machine) == 6:
        return machine
    more = (next(numbers) % 7, tuple(next(numbers) % (len(machine) + 1) for _ in machine.letters))
    return Machine(machine.letters, (*machine.states, more))


def changed_unseen(machine, numbers):
    """The same wish, with all anew at the states that are not reached."""
    reached = reached_in(machine)
    states = [
        state if k in reached else (next(numbers) % 7, tuple(next(numbers) % len(machine) for _ in state[1]))
        for k, state in enumerate(machine.states)]
    return Machine(machine.letters, tuple(states))


def disguised(machine, numbers):
    """Machines with the same wish."""
    twin = twinned(twinned(machine, numbers), numbers)
    return [
        renumbered(machine, numbers), shifted(machine), twin, with_more(machine, numbers),
        changed_unseen(machine, numbers), renumbered(with_more(shifted(twin), numbers), numbers)]


def neighbours(machine):
    """All machines that have a colour or an arrow otherwise."""
    found = []
    for state in range(len(machine)):
        for colour in range(7):
            found.append(machine.changed((state, "colour", colour)))
        for letter in machine.letters:
            for to in range(len(machine)):
                found.append(machine.changed((state, letter, to)))
    return found


def one_state(letters, colour):
    return Machine(letters, ((colour, (0,) * len(letters)),))


def pairs_of(many, seed):
    """Pairs of machines with the same letters."""
    by_letters = {}
    for machine in mixed_machines(many * 2, seed):
        by_letters.setdefault(machine.letters, []).append(machine)
    pairs = []
    for machines in by_letters.values():
        pairs += zip(machines[::2], machines[1::2])
    return pairs


def all_pairs(one, other):
    """The arrows and the pairs of colours of the pairs of states, numbered, of two machines that go on together."""
    pairs = list(product(one.states, other.states))
    arrows = [[a * len(other) + b for a, b in zip(x[1], y[1])] for x, y in pairs]
    return arrows, [(x[0], y[0]) for x, y in pairs]


def tops_round(one, other, inside):
    """For each pair of states the pairs of greatest colours of the loops that it lies on, a look at all colours."""
    arrows, colours = all_pairs(one, other)
    found = {k: set() for k in inside}
    for low, high in product({colours[k][0] for k in inside}, {colours[k][1] for k in inside}):
        within = {k for k in inside if colours[k][0] <= low and colours[k][1] <= high}
        ahead = {k: goes_to(arrows, k, within) for k in within}
        for k in within:
            loop = {other_k for other_k in ahead[k] if k in ahead[other_k]}
            if any(colours[j][0] == low for j in loop) and any(colours[j][1] == high for j in loop):
                found[k].add((low, high))
    return found


def jammed_pairs(one, other):
    """The pairs of states to which jams lead, as a look at all pairs of greatest colours tells them."""
    arrows, _ = all_pairs(one, other)
    tops = tops_round(one, other, range(len(arrows)))
    both = {k for k in tops if any(low % 2 == 0 and high % 2 == 0 for low, high in tops[k])}
    living = live_in(one)
    return {
        k for k in range(len(arrows))
        if k // len(other) in living and not both & ({k} | goes_to(arrows, k, range(len(arrows))))}

"""Demands on machines for the tests, and what holds of them, told by slow looks at all loops."""

from itertools import product

from guardhopes.machines import Machine
from tests.loops import (
    all_pairs, arrows_in, behind, depth_in, goes_to, live_in, one_state, reached_in, reached_loops, sure_in,
    tops_round, word_of)
from tests.values import Raises, SaysEqual, odd_values

KINDS = ("guard", "hope", "promise", "duty", "again", "stays", "watchable")
TEXT_A = "machine a\nstate 0 0"
TEXT_AB = "machine ab\nstate 1 0 1\nstate 0 0 0"


def kinds_in(machine):
    """The kinds of a wish, as all loops and the words of the document tell them."""
    even, odd = reached_loops(machine)
    lively, safe, reached = live_in(machine), sure_in(machine), reached_in(machine)
    told = {k for k in reached if k not in lively or k in safe}
    again = not any(inner < outer for inner, outer in product(even, odd))
    stays = not any(inner < outer for inner, outer in product(odd, even))
    truths = {
        # An endless run outside of the wish without a bad beginning goes round in an odd loop of live states.
        "guard": not any(loop <= set(lively) for loop in odd),
        "hope": all(k in lively for k in reached),
        # An endless run of the wish without a good beginning goes round in an even loop of no sure states.
        "promise": not any(not loop & set(safe) for loop in even),
        "duty": again and stays,
        "again": again,
        "stays": stays,
        "watchable": all(
            told & ({k} | goes_to(arrows_in(machine), k, range(len(machine)))) for k in reached),
    }
    return [kind for kind in KINDS if truths[kind]]


def goes_round_evenly(machine, lasso):
    """Whether the greatest colour that comes again and again is even: many rounds, and behind them many more."""
    start, turn = lasso
    state = behind(machine, start + turn * len(machine))
    top = 0
    for letter in turn * len(machine):
        state = behind(machine, letter, state)
        top = max(top, machine.states[state][0])
    return top % 2 == 0


def evennesses(one, other):
    """The pairs of evennesses of the loops of both together: a look at all pairs of greatest colours."""
    arrows, _ = all_pairs(one, other)
    tops = tops_round(one, other, range(len(arrows)))
    reached = {0} | goes_to(arrows, 0, range(len(arrows)))
    return {(low % 2, high % 2) for k in reached for low, high in tops[k]}


def alike_in(one, other):
    return not evennesses(one, other) & {(0, 1), (1, 0)}


def within_in(one, other):
    return (0, 1) not in evennesses(one, other)


def verdict_in(machine, word):
    state = behind(machine, word)
    if state not in live_in(machine):
        return "bad"
    return "good" if state in sure_in(machine) else "open"


def holds_in(machine, demand):
    """Whether a demand holds, told anew from the document."""
    if len(demand) == 1:
        return demand[0] in kinds_in(machine)
    word, asked = demand
    if word == "depth":
        return depth_in(machine) <= asked
    if word in ("in", "out"):
        return goes_round_evenly(machine, asked) is (word == "in")
    if word in ("bad", "good"):
        return verdict_in(machine, asked) == word
    return alike_in(machine, Machine.read(asked))


def some_demands(machine, numbers):
    """One demand of each form on a machine, its words and texts by chance."""
    letters = machine.letters
    start, turn, word, longer = (word_of(letters, numbers, many + next(numbers) % 4) for many in (0, 1, 0, 2))
    state, to = next(numbers) % len(machine), next(numbers) % len(machine)
    near = machine.changed((state, letters[0], to)).changed((to, "colour", next(numbers) % 7))
    return [
        *((kind,) for kind in KINDS), ("depth", next(numbers) % 7), ("in", (start, turn)), ("out", (start, turn)),
        ("bad", word), ("good", word), ("bad", longer), ("good", longer), ("like", str(near)),
        ("like", str(machine)), ("like", str(one_state(letters, next(numbers) % 2)))]


def no_demands_at_all():
    """Values that are demands on no machine."""
    texts = [
        "", "machine", "machine a", "machine a\nstate 0 1", "machine ab\nstate 0 0", "machine a\nstate 7 0",
        TEXT_A + "\n", " " + TEXT_A, "machine ba\nstate 0 0 0", TEXT_A.upper(), TEXT_A + "\nstate 0 0" * 6]
    words = ["A", "1", " ", "a ", "a\n", "abcd", "a" * 201, "abc" * 67, "~", "-"]
    lassos = [
        (), ("a",), ("", ""), ("a", ""), ("", "a", "b"), ("", ("a",)), ("ab", "cd"), ("a" * 201, "a"),
        ("a", "a" * 201), ("A", "a"), ("a", "A"), ("", "a "), ("", "abcd"), ["", "a"], "a", "aa", ("", b"a"),
        (None, "a"), ("a", None), (0, 1), (("", "a"),), ("", SaysEqual()), (Raises(), "a")]
    wrong_numbers = [-1, 7, 10 ** 39, True, False, "1", None, (1,), [1], b"1", SaysEqual(), Raises()]
    odd_words = ["", "Guard", "guards", "guard ", "parting", "open", "bad ", "type", "same", "within", "alike"]
    return [
        *odd_values(), "", "guard", "like", 0, 3, (), ((),), (None,), (SaysEqual(),), (Raises(),), (("guard",),),
        *((word,) for word in ("depth", "in", "out", "bad", "good", "like", *odd_words)),
        *((kind, kind) for kind in KINDS), *((kind, 1) for kind in KINDS), *((kind, None) for kind in KINDS),
        *([kind] for kind in KINDS), ("guard", "hope", "promise"), (b"guard",), ({"guard"},),
        *((word, "a") for word in odd_words), *((word, ("", "a")) for word in odd_words),
        *((word, TEXT_AB) for word in (*odd_words, *KINDS)), *((word, 1) for word in odd_words),
        *((value, "a") for value in odd_values()), *((value, 1) for value in odd_values()),
        *((value,) for value in odd_values()),
        *(("depth", number) for number in wrong_numbers), ("depth", 1, 1), ["depth", 1],
        *((form, lasso) for form in ("in", "out") for lasso in [*lassos, *odd_values()]),
        *((form, word) for form in ("bad", "good") for word in [*words, *odd_values(), ("", "a"), ("a",), 0]),
        *(("like", text) for text in [*texts, *odd_values(), (TEXT_A,), 0, ("machine", "a")]),
        ("in", ("", "a"), ("", "a")), ("in", "", "a"), ("bad", "a", "a"), ("like", TEXT_A, TEXT_A), ["bad", "a"],
        (("in", ("", "a")),), ("bad",), ("open", "a"), ("depth", "1"),
    ]


def demands_elsewhere():
    """Demands on some machines, but not on those with the letters ab."""
    return [
        ("in", ("", "c")), ("out", ("c", "a")), ("in", ("ab", "abc")), ("bad", "c"), ("good", "abz"), ("bad", "xyz"),
        ("like", TEXT_A), ("like", "machine abc\nstate 0 0 0 0"), ("like", "machine ac\nstate 0 0 0"),
        ("like", "machine yz\nstate 0 0 0")]

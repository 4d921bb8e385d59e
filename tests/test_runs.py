from itertools import product
from unittest import TestCase

from guardhopes import runs
from guardhopes.errors import InvalidLasso, InvalidWord, NotAMachine
from guardhopes.machines import Machine
from guardhopes.runs import lies_in, state_after
from tests.values import Raises, SaysEqual, numbers_from, odd_values, parts_of_machines, some_values

RARE = Machine.read("machine ab\nstate 1 0 1\nstate 2 0 2\nstate 1 2 2")
# The state is the number of letters behind one another, counted round.
RING = Machine("ab", tuple((k, ((k + 1) % 6, k)) for k in range(6)))


def word_of(letters, numbers, length):
    return "".join(letters[next(numbers) % len(letters)] for _ in range(length))


def words_up_to(letters, length):
    return ["".join(word) for many in range(length + 1) for word in product(letters, repeat=many)]


def simulated(machine, lasso):
    """Whether the lasso lies in the wish: goes on until a state comes at the same place of the round again."""
    start, turn = lasso
    state = 0
    for letter in start:
        state = machine.states[state][1][machine.letters.index(letter)]
    met = {}
    colours = []
    at = 0
    while (state, at % len(turn)) not in met:
        met[state, at % len(turn)] = at
        state = machine.states[state][1][machine.letters.index(turn[at % len(turn)])]
        colours.append(machine.states[state][0])
        at += 1
    return max(colours[met[state, at % len(turn)]:]) % 2 == 0


class RunsCase(TestCase):
    def assert_refused(self, kind, value, call):
        with self.assertRaises(kind) as raised:
            call()
        self.assertIs(type(raised.exception), kind)
        self.assertIs(raised.exception.given, value)

    def no_machines(self):
        twin = type("Twin", (), {"letters": "ab", "states": RARE.states})()
        return [*some_values(), str(RARE), RARE.states, ("ab", RARE.states), Machine, twin]


class StateAfterTest(RunsCase):
    def test_letter_by_letter(self):
        for letters, states in parts_of_machines(90, 5):
            machine = Machine(letters, states)
            for word in words_up_to(letters, 4):
                state = 0
                for letter in word:
                    state = states[state][1][letters.index(letter)]
                got = state_after(machine, word)
                self.assertEqual(got, state)
                self.assertIs(type(got), int)

    def test_the_empty_word(self):
        for letters, states in parts_of_machines(36, 6):
            self.assertEqual(state_after(Machine(letters, states), ""), 0)

    def test_words_of_200_letters_and_of_201(self):
        self.assertEqual(state_after(RING, "a" * 199), 1)
        self.assertEqual(state_after(RING, "a" * 200), 2)
        self.assertEqual(state_after(RING, "b" * 200), 0)
        self.assertEqual(state_after(RING, "ab" * 100), 4)
        for word in ("a" * 201, "b" * 201, "ab" * 100 + "a", "a" * 8000):
            self.assert_refused(InvalidWord, word, lambda: state_after(RING, word))

    def test_by_name(self):
        self.assertEqual(state_after(word="abb", machine=RARE), 2)

    def test_what_is_no_word(self):
        wrong = [
            "c", "A", "abc", "cab", "acb", "a b", " ", "a ", " a", "\n", "ab\n", "1", "a" * 199 + "c", "`",
            0, 1, (), ("a",), ("a", "b"), ("", "a"), RARE, *odd_values(),
        ]
        for word in wrong:
            self.assert_refused(InvalidWord, word, lambda: state_after(RARE, word))

    def test_letters_of_the_machine_only(self):
        machine = Machine("bd", ((0, (0, 0)),))
        for letter in "abcdefghijklmnopqrstuvwxyz":
            if letter in "bd":
                self.assertEqual(state_after(machine, letter), 0)
            else:
                self.assert_refused(InvalidWord, letter, lambda: state_after(machine, letter))

    def test_the_machine_is_looked_at_first(self):
        for value in self.no_machines():
            for word in ("", "ab", "c", None, Raises()):
                self.assert_refused(NotAMachine, value, lambda: state_after(value, word))


class LiesInTest(RunsCase):
    def test_as_simulated(self):
        numbers = numbers_from(7)
        for letters, states in parts_of_machines(180, 8):
            machine = Machine(letters, states)
            for start, turn in product(range(4), range(1, 8)):
                lasso = (word_of(letters, numbers, start), word_of(letters, numbers, turn))
                got = lies_in(machine, lasso)
                self.assertIs(got, simulated(machine, lasso))

    def test_both_answers_for_each_greatest_colour(self):
        for colour in range(7):
            machine = Machine("ab", ((6, (1, 1)), (5, (2, 2)), (colour, (2, 2))))
            self.assertIs(lies_in(machine, ("", "a")), colour % 2 == 0)
            machine = Machine("ab", ((0, (1, 0)), (colour, (0, 0))))
            self.assertIs(lies_in(machine, ("", "a")), colour % 2 == 0)

    def test_only_what_comes_again_counts(self):
        # All colours on the way are greater than the one that stays.
        chain = Machine("a", ((6, (1,)), (5, (2,)), (4, (3,)), (3, (4,)), (2, (5,)), (1, (5,))))
        for many in range(9):
            self.assertIs(lies_in(chain, ("a" * many, "a")), False)
            self.assertIs(lies_in(chain, ("", "a" * (many + 1))), False)
        self.assertIs(lies_in(chain.changed((5, "colour", 0)), ("", "a")), True)

    def test_what_comes_between_the_rounds_counts(self):
        # The greatest colour is met only in the midst of a round, or only in every sixth round.
        midst = Machine("ab", ((1, (1, 0)), (2, (0, 0))))
        self.assertIs(lies_in(midst, ("", "ab")), True)
        self.assertIs(lies_in(midst, ("", "b")), False)
        for colour in (5, 6):
            sixth = Machine("a", tuple((colour if k == 5 else k % 2, ((k + 1) % 6,)) for k in range(6)))
            for turn in (1, 5, 7, 11, 199):
                self.assertIs(lies_in(sixth, ("", "a" * turn)), colour == 6)

    def test_rounds_that_begin_in_the_cycle_late(self):
        # Five rounds lead to the loop, then each round stays there.
        late = Machine("ab", tuple((1, (min(k + 1, 5), k)) for k in range(5)) + ((2, (5, 5)),))
        self.assertIs(lies_in(late, ("", "a")), True)
        self.assertIs(lies_in(late, ("", "b")), False)
        self.assertIs(lies_in(late, ("aaaa", "b")), False)
        self.assertIs(lies_in(late, ("aaaaa", "b")), True)

    def test_the_same_run_by_different_lassos(self):
        for letters, states in parts_of_machines(72, 9):
            machine = Machine(letters, states)
            for start, turn in product(words_up_to(letters, 2), words_up_to(letters, 2)[1:]):
                got = lies_in(machine, (start, turn))
                for other in (
                    (start + turn, turn), (start, turn * 2), (start, turn * 7), (start + turn * 3, turn * 5),
                    (start + turn[0], turn[1:] + turn[0]),
                ):
                    self.assertIs(lies_in(machine, other), got)

    def test_long_starts_and_rounds(self):
        numbers = numbers_from(10)
        for letters, states in parts_of_machines(72, 11):
            machine = Machine(letters, states)
            for start, turn in ((200, 200), (0, 200), (200, 1), (199, 199), (150, 97)):
                lasso = (word_of(letters, numbers, start), word_of(letters, numbers, turn))
                self.assertIs(lies_in(machine, lasso), simulated(machine, lasso))

    def test_words_of_201_letters(self):
        for lasso in (("a" * 201, "a"), ("", "a" * 201), ("a" * 201, "a" * 201), ("a" * 8000, "a")):
            self.assert_refused(InvalidLasso, lasso, lambda: lies_in(RARE, lasso))

    def test_an_empty_round(self):
        for lasso in (("", ""), ("a", ""), ("ab" * 100, "")):
            self.assert_refused(InvalidLasso, lasso, lambda: lies_in(RARE, lasso))

    def test_what_is_no_lasso(self):
        wrong = [
            (), ("",), ("a",), ("a", "b", "a"), ("", "a", ""), ["", "a"], ("", ["a"]), ([], "a"), ("", ("a",)),
            (("", "a"),), ("", "c"), ("c", "a"), ("", "A"), ("", "a "), (" ", "a"), ("", "a\n"), ("", None),
            (None, "a"), ("", 0), (0, "a"), ("", True), ("", b"a"), (b"", "a"), (Raises(), "a"), ("", Raises()),
            (SaysEqual(), "a"), ("", SaysEqual()), (RARE, "a"), "", "a", "ab", "aa", 0, 1, RARE, *odd_values(),
        ]
        for lasso in wrong:
            self.assert_refused(InvalidLasso, lasso, lambda: lies_in(RARE, lasso))

    def test_lists_that_are_passed_stay_as_they_are(self):
        listed = ["", "a"]
        self.assert_refused(InvalidLasso, listed, lambda: lies_in(RARE, listed))
        self.assertEqual(listed, ["", "a"])

    def test_by_name(self):
        self.assertIs(lies_in(lasso=("", "ab"), machine=RARE), True)

    def test_the_machine_is_looked_at_first(self):
        for value in self.no_machines():
            for lasso in (("", "a"), ("", ""), None, Raises()):
                self.assert_refused(NotAMachine, value, lambda: lies_in(value, lasso))

    def test_defined_in_its_file(self):
        for name in ("state_after", "lies_in"):
            self.assertEqual(getattr(runs, name).__module__, "guardhopes.runs")

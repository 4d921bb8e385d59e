from itertools import product
from unittest import TestCase

from guardhopes import parts
from guardhopes.errors import NotAMachine
from guardhopes.kinds import is_guard
from guardhopes.likeness import alike, within
from guardhopes.living import live, sure, verdict
from guardhopes.machines import Machine
from guardhopes.parts import guard, hope, opposite, recoloured
from guardhopes.runs import lies_in
from tests.loops import (
    all_loops, behind, depth_in, disguised, ladder, lassos_of, live_in, mixed_machines, neighbours, no_machines,
    one_state, reached_in, top_in, words_up_to)
from tests.values import Raises, numbers_from

RARE = Machine.read("machine ab\nstate 1 0 1\nstate 2 0 2\nstate 1 2 2")
CALLS = (guard, hope, opposite, recoloured)


def bad_sometime(machine, lasso):
    """Whether the run of a lasso has a bad beginning."""
    return behind(machine, lasso[0] + lasso[1] * 6) not in live_in(machine)


class PartsCase(TestCase):
    def assert_same_shape(self, got, machine):
        self.assertIs(type(got), Machine)
        self.assertEqual(got.letters, machine.letters)
        self.assertEqual(len(got), len(machine))
        for state, other in zip(got.states, machine.states):
            self.assertIs(type(state[0]), int)
            self.assertIn(state[0], range(7))
            self.assertEqual(state[1], other[1])


class GuardTest(PartsCase):
    def test_its_runs_are_those_without_a_bad_beginning(self):
        numbers = numbers_from(41)
        for machine in mixed_machines(240, 42):
            got = guard(machine)
            for lasso in lassos_of(machine.letters, numbers, 12):
                self.assertIs(lies_in(got, lasso), not bad_sometime(machine, lasso))

    def test_it_has_the_same_bad_beginnings(self):
        for machine in mixed_machines(240, 43):
            got = guard(machine)
            self.assertEqual(got.letters, machine.letters)
            for word in words_up_to(machine.letters, 4):
                self.assertEqual(verdict(got, word) == "bad", verdict(machine, word) == "bad")

    def test_the_colours(self):
        for machine in mixed_machines(240, 44):
            got = guard(machine)
            for k, (colour, following) in enumerate(got.states):
                self.assertIs(type(colour), int)
                self.assertEqual(colour, 0 if k in live_in(got) else 1)
                for to in following:
                    self.assertIs(type(to), int)

    def test_the_fewest_states(self):
        sizes = {}
        for machine in mixed_machines(300, 45):
            # Beginnings that need states of their own: some word makes the one bad and the other one not.
            lively = live_in(machine)
            words = words_up_to(machine.letters, 5)
            unlike = {
                tuple(behind(machine, word, k) in lively for word in words) for k in reached_in(machine)}
            self.assertEqual(len(guard(machine)), len(unlike))
            sizes[len(unlike)] = True
        self.assertEqual(sorted(sizes)[:5], [1, 2, 3, 4, 5])

    def test_states_that_only_long_words_tell_apart(self):
        for letters in ("q", "ab", "xyz"):
            width = len(letters)
            # With the first letter down to the bad end, with the others back to the top.
            chain = Machine(letters, tuple(
                (1 if k == 5 else 0, (min(k + 1, 5), *(5 if k == 5 else 0 for _ in range(width - 1))))
                for k in range(6)))
            told = guard(chain)
            if width == 1:
                self.assertEqual(told, one_state(letters, 1))
            else:
                self.assertEqual(told, chain)

    def test_numbered_as_they_are_met(self):
        for machine in mixed_machines(300, 46):
            got = guard(machine)
            met = []
            for word in words_up_to(machine.letters, 5):
                if behind(got, word) not in met:
                    met.append(behind(got, word))
            self.assertEqual(met, list(range(len(got))))

    def test_by_hand(self):
        # No two z side by side; the machine counts backwards and has a state that is not reached.
        machine = Machine("cz", ((2, (0, 4)), (5, (1, 1)), (4, (3, 0)), (1, (3, 1)), (0, (0, 1))))
        self.assertEqual(guard(machine).states, ((0, (0, 1)), (0, (0, 2)), (1, (2, 2))))
        # By length first, then by the alphabet: a leads to 1, b to 2, aa to 3.
        late = Machine("ab", ((0, (3, 2)), (1, (1, 1)), (0, (1, 0)), (0, (4, 1)), (0, (4, 4))))
        self.assertEqual(guard(late).states, (
            (0, (1, 2)), (0, (3, 4)), (0, (4, 0)), (0, (3, 3)), (1, (4, 4))))

    def test_the_guard_of_a_guard(self):
        for machine in mixed_machines(240, 47):
            got = guard(machine)
            self.assertEqual(guard(got), got)
            self.assertIs(is_guard(got), True)

    def test_the_same_guard_from_the_same_wish(self):
        numbers = numbers_from(48)
        for machine in mixed_machines(240, 49):
            for other in disguised(machine, numbers):
                self.assertEqual(str(guard(other)), str(guard(machine)))

    def test_no_run_and_all_runs(self):
        for letters, colour in product(("q", "ab", "xyz"), range(7)):
            self.assertEqual(guard(one_state(letters, colour)), one_state(letters, colour % 2))
            for count in range(2, 7):
                # All loops have the colour, which is the greatest one.
                states = tuple(
                    (colour if k == 0 else colour % 2, (0,) * len(letters) if k else (count - 1,) * len(letters))
                    for k in range(count))
                self.assertEqual(guard(Machine(letters, states)), one_state(letters, colour % 2))

    def test_the_least_of_the_guards(self):
        # Each guard that has all runs of the wish has all runs of its guard.
        met = 0
        for machine in mixed_machines(36, 50):
            self.assertIs(within(machine, guard(machine)), True)
            for other in neighbours(guard(machine)):
                if is_guard(other) and within(machine, other):
                    self.assertIs(within(guard(machine), other), True)
                    met += 1
        self.assertGreater(met, 100)


class HopeTest(PartsCase):
    def test_all_but_the_dead_states_stay(self):
        met = {}
        for machine in mixed_machines(300, 51):
            got = hope(machine)
            self.assert_same_shape(got, machine)
            for k, (colour, _) in enumerate(machine.states):
                self.assertEqual(got.states[k][0], colour if k in live_in(machine) else 0)
                met[k in live_in(machine), k in reached_in(machine), colour] = True
        self.assertEqual(len(met), 28)

    def test_no_state_of_it_is_dead(self):
        for machine in mixed_machines(120, 52):
            self.assertEqual(live(hope(machine)), tuple(range(len(machine))))

    def test_its_runs(self):
        numbers = numbers_from(53)
        for machine in mixed_machines(180, 54):
            for lasso in lassos_of(machine.letters, numbers, 12):
                told = lies_in(machine, lasso) or bad_sometime(machine, lasso)
                self.assertIs(lies_in(hope(machine), lasso), told)

    def test_the_guard_and_the_hope_together_are_the_wish(self):
        numbers = numbers_from(55)
        for machine in mixed_machines(240, 56):
            both = (guard(machine), hope(machine))
            for lasso in lassos_of(machine.letters, numbers, 16):
                self.assertIs(all([lies_in(part, lasso) for part in both]), lies_in(machine, lasso))

    def test_no_run_and_all_runs(self):
        for letters, colour in product(("q", "ab", "xyz"), range(7)):
            machine = one_state(letters, colour)
            self.assertEqual(hope(machine), one_state(letters, 0 if colour % 2 else colour))


class OppositeTest(PartsCase):
    def test_just_the_other_lassos(self):
        numbers = numbers_from(57)
        for machine in mixed_machines(300, 58):
            got = opposite(machine)
            self.assert_same_shape(got, machine)
            for lasso in lassos_of(machine.letters, numbers, 12):
                self.assertIs(lies_in(got, lasso), not lies_in(machine, lasso))

    def test_each_loop_is_turned(self):
        for machine in mixed_machines(180, 59):
            got = opposite(machine)
            for loops, evenness in zip(all_loops(machine), (0, 1)):
                for loop in loops:
                    self.assertNotEqual(top_in(got, loop) % 2, evenness)

    def test_of_the_opposite(self):
        for machine in mixed_machines(180, 60):
            self.assertIs(alike(opposite(opposite(machine)), machine), True)
            self.assertEqual(sure(opposite(machine)), tuple(
                k for k in range(len(machine)) if k not in live_in(machine)))

    def test_all_colours_at_once(self):
        for letters in ("q", "ab", "xyz"):
            for colours in ((1, 2, 3, 4, 5, 6), (0, 2, 3, 4, 5, 6), (6, 5, 4, 3, 2, 1), (0, 6, 1, 5, 2, 4), (0, 6)):
                machine = ladder(letters, colours)
                got = opposite(machine)
                self.assert_same_shape(got, machine)
                for lasso in product(words_up_to(letters, 3), words_up_to(letters, 3)[1:]):
                    self.assertIs(lies_in(got, lasso), not lies_in(machine, lasso))

    def test_one_state_of_each_colour(self):
        for letters, colour in product(("q", "ab", "xyz"), range(7)):
            got = opposite(one_state(letters, colour))
            self.assertIs(lies_in(got, ("", letters[0])), colour % 2 == 1)


class RecolouredTest(PartsCase):
    def test_the_same_wish_in_few_colours(self):
        numbers = numbers_from(61)
        for machine in mixed_machines(300, 62):
            got = recoloured(machine)
            self.assert_same_shape(got, machine)
            self.assertLessEqual(max(state[0] for state in got.states), depth_in(machine))
            self.assertIs(alike(got, machine), True)
            for lasso in lassos_of(machine.letters, numbers, 12):
                self.assertIs(lies_in(got, lasso), lies_in(machine, lasso))

    def test_states_that_are_not_reached_need_no_colours(self):
        machine = Machine("ab", ((2, (0, 0)), (1, (2, 1)), (2, (3, 1)), (3, (4, 2)), (4, (5, 3)), (5, (5, 4))))
        self.assertEqual([state[0] for state in recoloured(machine).states], [0] * 6)

    def test_one_state_of_each_colour(self):
        for letters, colour in product(("q", "ab", "xyz"), range(7)):
            self.assertEqual(recoloured(one_state(letters, colour)), one_state(letters, colour % 2))

    def test_ladders(self):
        for colours, told in (
            ((1, 2, 3, 4, 5, 6), 6), ((0, 1, 2, 3, 4, 5), 5), ((2, 3, 4, 5, 6), 4), ((3, 6), 2), ((0, 5), 1),
            ((2, 4, 6), 0), ((1, 3, 5), 1), ((4, 6, 5), 2), ((5, 3, 4), 3), ((4, 1), 2), ((6, 1, 6), 2),
        ):
            machine = ladder("abc", colours)
            self.assertEqual(depth_in(machine), told)
            self.assertEqual(max(state[0] for state in recoloured(machine).states), told)
            self.assertIs(alike(recoloured(machine), machine), True)


class AllPartsTest(PartsCase):
    def test_wrong_machines(self):
        for call, value in product(CALLS, [*no_machines(), Raises()]):
            for told in (lambda: call(value), lambda: call(machine=value)):
                with self.assertRaises(NotAMachine) as raised:
                    told()
                self.assertIs(raised.exception.given, value)

    def test_by_name(self):
        for call in CALLS:
            self.assertEqual(call(machine=RARE), call(RARE))

    def test_results_can_be_passed_and_are_the_same_each_time(self):
        for machine in mixed_machines(60, 63):
            text = str(machine)
            for call, then in product(CALLS, CALLS):
                self.assertEqual(call(Machine.read(text)), call(machine))
                got = call(machine)
                self.assertEqual(Machine(got.letters, got.states), got)
                self.assertIs(type(then(got)), Machine)
            self.assertEqual(str(machine), text)

    def test_defined_in_its_file(self):
        for name in ("guard", "hope", "opposite", "recoloured"):
            self.assertEqual(getattr(parts, name).__module__, "guardhopes.parts")

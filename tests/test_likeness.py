from itertools import product
from unittest import TestCase

from guardhopes import likeness
from guardhopes.errors import NotAMachine, OtherLetters
from guardhopes.likeness import alike, breaking, parting, within
from guardhopes.machines import Machine
from guardhopes.parts import guard, hope, opposite, recoloured
from guardhopes.runs import lies_in
from tests.loops import (
    all_pairs, disguised, goes_to, ladder, lassos_of, loops_in, mixed_machines, neighbours, no_machines, one_state,
    pairs_of, renumbered, tops_round, words_up_to)
from tests.values import Raises, SaysEqual, numbers_from

RARE = Machine.read("machine ab\nstate 1 0 1\nstate 2 0 2\nstate 1 2 2")
CALLS = (parting, alike, breaking, within)


def reached_pairs(one, other):
    """The pairs of states to which words lead both machines together."""
    arrows, _ = all_pairs(one, other)
    return sorted({0} | goes_to(arrows, 0, range(len(arrows))))


def evennesses_by_loops(one, other):
    """The pairs of evennesses that the loops of both machines together have: a look at all loops."""
    arrows, colours = all_pairs(one, other)
    return {
        tuple(max(colours[k][place] for k in loop) % 2 for place in (0, 1))
        for loop in loops_in(arrows, reached_pairs(one, other))}


def evennesses_by_colours(one, other):
    """The same, by a look at all pairs of greatest colours."""
    tops = tops_round(one, other, reached_pairs(one, other))
    return {(low % 2, high % 2) for found in tops.values() for low, high in found}


class LikenessCase(TestCase):
    def assert_lasso(self, lasso, one, other, truths):
        """Both machines take the lasso, and what they tell of it is one of the pairs of truths."""
        self.assertIs(type(lasso), tuple)
        self.assertEqual([type(word) for word in lasso], [str, str])
        self.assertIn((lies_in(one, lasso), lies_in(other, lasso)), truths)

    def assert_told(self, one, other, evennesses):
        """All four calls tell what the evennesses of all loops of both together tell, in both directions."""
        for first, second, broken in ((one, other, (0, 1)), (other, one, (1, 0))):
            lasso = breaking(first, second)
            self.assertIs(within(first, second), broken not in evennesses)
            if broken in evennesses:
                self.assert_lasso(lasso, first, second, [(True, False)])
            else:
                self.assertIs(lasso, None)
        apart = (0, 1) in evennesses or (1, 0) in evennesses
        for first, second in ((one, other), (other, one)):
            lasso = parting(first, second)
            self.assertIs(alike(first, second), not apart)
            if apart:
                self.assert_lasso(lasso, first, second, [(True, False), (False, True)])
            else:
                self.assertIs(lasso, None)


class AllLoopsTest(LikenessCase):
    def test_as_all_loops_of_both_tell(self):
        met = {}
        for one, other in pairs_of(500, 71):
            if len(reached_pairs(one, other)) <= 8:
                told = evennesses_by_loops(one, other)
                self.assertEqual(told, evennesses_by_colours(one, other))
                self.assert_told(one, other, told)
                met[frozenset(told)] = met.get(frozenset(told), 0) + 1
        self.assertGreater(len(met), 11)

    def test_as_all_colours_of_both_tell(self):
        for one, other in pairs_of(300, 72):
            self.assert_told(one, other, evennesses_by_colours(one, other))

    def test_two_machines_of_six_states_and_three_letters(self):
        numbers = numbers_from(73)
        for _ in range(60):
            one, other = (
                Machine("abc", tuple(
                    (next(numbers) % 7, tuple(next(numbers) % 6 for _ in range(3))) for _ in range(6)))
                for _ in range(2))
            self.assert_told(one, other, evennesses_by_colours(one, other))
            near = one.changed((next(numbers) % 6, "colour", next(numbers) % 7))
            self.assert_told(one, near, evennesses_by_colours(one, near))

    def test_rings_that_meet_late(self):
        # The first machine counts to five, the second one to six: both greatest colours meet in 30 letters only.
        for high, beside in product(range(1, 7), repeat=2):
            one = Machine("ab", tuple((high if k == 4 else 0, ((k + 1) % 5, (k + 1) % 5)) for k in range(5)))
            other = Machine("ab", tuple((beside if k == 2 else 0, ((k + 1) % 6, (k + 1) % 6)) for k in range(6)))
            self.assert_told(one, other, {(high % 2, beside % 2)})


class AlikeTest(LikenessCase):
    def test_of_the_same_wish(self):
        numbers = numbers_from(74)
        for machine in mixed_machines(180, 75):
            for other in [machine, *disguised(machine, numbers), recoloured(machine), opposite(opposite(machine))]:
                self.assertIs(alike(machine, other), True)
                self.assertIs(parting(machine, other), None)
                self.assertIs(within(machine, other), True)
                self.assertIs(within(other, machine), True)
                self.assertIs(breaking(other, machine), None)

    def test_machines_near_one_another(self):
        met = []
        for machine in [RARE, ladder("abc", (1, 2, 3)), *mixed_machines(18, 76)]:
            for other in neighbours(machine):
                told = evennesses_by_colours(machine, other)
                self.assert_told(machine, other, told)
                met.append((0, 1) in told or (1, 0) in told)
        self.assertTrue(100 < sum(met) < len(met) - 100)

    def test_the_opposite_is_never_alike(self):
        for machine in mixed_machines(120, 77):
            other = opposite(machine)
            self.assertIs(alike(machine, other), False)
            self.assert_lasso(parting(machine, other), machine, other, [(True, False), (False, True)])

    def test_no_run_and_all_runs(self):
        for letters, low, high in product(("q", "ab", "xyz"), range(7), range(7)):
            one, other = one_state(letters, low), one_state(letters, high)
            self.assertIs(alike(one, other), low % 2 == high % 2)
            self.assertIs(within(one, other), low % 2 == 1 or high % 2 == 0)

    def test_differences_far_from_the_beginning(self):
        # Only runs that go up to the sixth state tell the two apart.
        for letters in ("ab", "xyz"):
            one = ladder(letters, (1, 3, 1, 3, 1, 4))
            other = ladder(letters, (1, 3, 1, 3, 1, 5))
            self.assert_told(one, other, evennesses_by_colours(one, other))
            self.assertIs(alike(one, other), False)
            self.assertIs(within(other, one), True)
            # What is not reached does not tell them apart.
            cut = [(k[0], tuple(min(to, 4) for to in k[1])) for k in one.states]
            recut = [*cut[:5], (5, cut[5][1])]
            self.assertIs(alike(Machine(letters, tuple(cut)), Machine(letters, tuple(recut))), True)

    def test_only_one_direction(self):
        for machine in mixed_machines(120, 78):
            self.assertIs(within(machine, guard(machine)), True)
            self.assertIs(within(machine, hope(machine)), True)
            for part in (guard(machine), hope(machine)):
                self.assertIs(within(part, machine), alike(part, machine))
                lasso = breaking(part, machine)
                if lasso is not None:
                    self.assert_lasso(lasso, part, machine, [(True, False)])

    def test_as_many_lassos_tell(self):
        numbers = numbers_from(79)
        for one, other in pairs_of(90, 80):
            for lasso in lassos_of(one.letters, numbers, 20):
                truths = (lies_in(one, lasso), lies_in(other, lasso))
                if truths[0] != truths[1]:
                    self.assertIs(alike(one, other), False)
                if truths == (True, False):
                    self.assertIs(within(one, other), False)

    def test_short_lassos_are_not_missed(self):
        lassos = list(product(words_up_to("ab", 3), words_up_to("ab", 3)[1:]))
        for states in product(product((0, 1, 2), product(range(2), repeat=2)), repeat=2):
            machine = Machine("ab", states)
            breaks = [lasso for lasso in lassos if lies_in(machine, lasso) and not lies_in(RARE, lasso)]
            self.assertIs(within(machine, RARE), not breaks)


class ErrorsTest(LikenessCase):
    def assert_refused(self, kind, value, call):
        with self.assertRaises(kind) as raised:
            call()
        self.assertIs(type(raised.exception), kind)
        self.assertIs(raised.exception.given, value)

    def test_no_machine_in_each_place(self):
        for call, value in product(CALLS, no_machines()):
            self.assert_refused(NotAMachine, value, lambda: call(value, RARE))
            self.assert_refused(NotAMachine, value, lambda: call(RARE, value))
            self.assert_refused(NotAMachine, value, lambda: call(other=value, one=RARE))
            self.assert_refused(NotAMachine, value, lambda: call(value, None))
            self.assert_refused(NotAMachine, value, lambda: call(value, Raises()))
            self.assert_refused(NotAMachine, value, lambda: call(value, SaysEqual()))

    def test_other_letters_last(self):
        alphabet = [one_state(letters, 0) for letters in ("a", "b", "ab", "ac", "abc", "bc", "abd")]
        for call, one, other in product(CALLS, alphabet, alphabet):
            if one.letters != other.letters:
                self.assert_refused(OtherLetters, other, lambda: call(one, other))
                self.assert_refused(OtherLetters, other, lambda: call(other=other, one=one))
            else:
                self.assertIn(call(one, other), (None, True))

    def test_by_name(self):
        other = hope(RARE)
        self.assertEqual(parting(other=other, one=RARE), parting(RARE, other))
        self.assertEqual(breaking(other=RARE, one=other), breaking(other, RARE))
        self.assertIs(within(other=RARE, one=other), False)
        self.assertIs(within(other=other, one=RARE), True)
        self.assertIs(alike(other=RARE, one=RARE), True)

    def test_same_results_each_time_and_unchanged_machines(self):
        numbers = numbers_from(81)
        for machine in mixed_machines(60, 82):
            other = opposite(renumbered(machine, numbers))
            texts = str(machine), str(other)
            for call in CALLS:
                self.assertEqual(call(machine, other), call(Machine.read(texts[0]), Machine.read(texts[1])))
            self.assertEqual((str(machine), str(other)), texts)

    def test_defined_in_its_file(self):
        for name in ("parting", "alike", "breaking", "within"):
            self.assertEqual(getattr(likeness, name).__module__, "guardhopes.likeness")

from itertools import product

from guardhopes import seeing
from guardhopes.machines import Machine
from guardhopes.parts import guard, hope, opposite
from guardhopes.runs import lies_in
from guardhopes.seeing import fitting
from tests.cases import Case
from tests.loops import behind, disguised, ladder, lassos_of, mixed_machines, one_state
from tests.values import numbers_from

RARE = Machine.read("machine ab\nstate 1 0 1\nstate 2 0 2\nstate 1 2 2")
SOME = Machine("ab", ((1, (1, 0)), (0, (1, 1))))
CALM = Machine("ab", ((0, (0, 1)), (1, (1, 1))))
THREE = (RARE, SOME, CALM)


def lies_by_steps(machine, lasso):
    """Whether a lasso with words of any length lies in the wish: goes round until nothing new can come."""
    start, turn = lasso
    state = behind(machine, start + turn * 6)
    colours = []
    for letter in turn * 6:
        state = behind(machine, letter, state)
        colours.append(machine.states[state][0])
    return max(colours) % 2 == 0


class FittingTest(Case):
    def assert_fitting(self, machines, seen, indexes):
        found = fitting(machines, seen)
        self.assertEqual(found, indexes)
        self.assertIs(type(found), tuple)
        self.assertTrue(all(type(index) is int for index in found))

    def test_nothing_seen_and_no_machines(self):
        self.assert_fitting(THREE, (), (0, 1, 2))
        self.assert_fitting((), (), ())
        self.assert_fitting((), ((("", "a"), True),), ())
        self.assert_fitting((one_state("z", 1),), (), (0,))

    def test_each_truth_counts(self):
        for lassos in product((("", "a"), ("", "b"), ("", "ab"), ("b", "a")), repeat=2):
            for truths in product((True, False), repeat=2):
                seen = tuple(zip(lassos, truths))
                told = tuple(
                    index for index, machine in enumerate(THREE)
                    if all(lies_in(machine, lasso) is truth for lasso, truth in seen))
                self.assert_fitting(THREE, seen, told)

    def test_a_lasso_seen_as_both_fits_none(self):
        self.assert_fitting(THREE, ((("", "a"), True), (("", "a"), False)), ())
        self.assert_fitting(THREE, ((("", "a"), True), (("a", "aa"), False)), ())
        self.assert_fitting(THREE, ((("", "a"), True), (("a", "aa"), True)), (1, 2))

    def test_the_same_machine_more_than_once(self):
        self.assert_fitting((SOME, RARE, SOME, CALM, SOME), ((("", "a"), True), (("b", "a"), True)), (0, 2, 4))

    def test_machines_with_other_letters(self):
        every = [one_state(letters, 0) for letters in ("a", "b", "ab", "abc", "bc", "z")]
        nothing = [one_state(letters, 1) for letters in ("a", "b", "ab", "abc", "bc", "z")]
        for truth, machines in ((True, every), (False, nothing)):
            machines = tuple(machines)
            self.assert_fitting(machines, ((("", "a"), truth),), (0, 2, 3))
            self.assert_fitting(machines, ((("", "b"), truth),), (1, 2, 3, 4))
            self.assert_fitting(machines, ((("a", "b"), truth),), (2, 3))
            self.assert_fitting(machines, ((("b", "a"), truth),), (2, 3))
            self.assert_fitting(machines, ((("", "abc"), truth),), (3,))
            self.assert_fitting(machines, ((("", "a"), truth), (("", "b"), truth)), (2, 3))
            self.assert_fitting(machines, ((("c", "b"), truth), (("", "cb"), truth)), (3, 4))
            self.assert_fitting(machines, ((("abz", "a"), truth),), ())
            # Letters that the machine has not are no lasso of it, whatever the truth is.
            self.assert_fitting(machines, ((("", "a"), not truth),), ())

    def test_many_machines(self):
        numbers = numbers_from(111)
        machines = tuple(mixed_machines(150, 112))
        for letters in ("a", "ab", "abc", "z", "by"):
            for lasso in lassos_of(letters, numbers, 12):
                for truth in (True, False):
                    told = tuple(
                        index for index, machine in enumerate(machines)
                        if set("".join(lasso)) <= set(machine.letters) and lies_by_steps(machine, lasso) is truth)
                    self.assert_fitting(machines, ((lasso, truth),), told)

    def test_many_lassos_seen(self):
        numbers = numbers_from(113)
        for machine in mixed_machines(90, 114):
            seen = tuple((lasso, lies_by_steps(machine, lasso)) for lasso in lassos_of(machine.letters, numbers, 12))
            machines = (machine, opposite(machine), *disguised(machine, numbers), guard(machine), hope(machine))
            self.assertEqual(fitting(machines, seen)[:1], (0,))
            told = tuple(
                index for index, other in enumerate(machines)
                if all(lies_by_steps(other, lasso) is truth for lasso, truth in seen))
            self.assert_fitting(machines, seen, told)
            self.assertLessEqual({0, 2, 3, 4, 5, 6, 7}, set(told))
            self.assertNotIn(1, told)

    def test_greatest_machines(self):
        numbers = numbers_from(115)
        machines = tuple(ladder("abc", tuple(next(numbers) % 7 for _ in range(6))) for _ in range(60))
        for lasso in lassos_of("abc", numbers, 20):
            told = tuple(index for index, machine in enumerate(machines) if lies_by_steps(machine, lasso))
            self.assert_fitting(machines, ((lasso, True),), told)

    def test_words_of_any_length(self):
        # The document sets no bound for what was seen.
        for many in (199, 200, 201, 1000):
            self.assert_fitting(THREE, ((("ab" * many, "ab" * many), True),), (0, 1))
            self.assert_fitting(THREE, ((("a" * many, "a" * many), True),), (1, 2))

    def test_by_name_the_same_each_time_and_nothing_changes(self):
        seen = ((("", "a"), False), (("a", "ab"), True))
        texts = [str(machine) for machine in THREE]
        self.assertEqual(fitting(seen=seen, machines=THREE), (0,))
        self.assertEqual(fitting(tuple(Machine.read(text) for text in texts), seen), (0,))
        self.assertEqual([str(machine) for machine in THREE], texts)
        self.assertEqual(seen, ((("", "a"), False), (("a", "ab"), True)))

    def test_defined_in_its_file(self):
        self.assertEqual(fitting.__module__, seeing.__name__)

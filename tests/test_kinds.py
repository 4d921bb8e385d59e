from itertools import product
from unittest import TestCase

from guardhopes import kinds
from guardhopes.errors import InvalidVerdict, NotAMachine
from guardhopes.kinds import comes_again, depth, does_stay, is_duty, is_guard, is_hope, is_promise, turning
from guardhopes.likeness import alike
from guardhopes.machines import Machine
from guardhopes.parts import guard, hope, opposite, recoloured
from guardhopes.runs import lies_in, state_after
from tests.loops import (
    behind, changed_unseen, depth_in, disguised, ladder, lassos_of, live_in, mixed_machines, no_machines, one_state,
    reached_in, reached_loops, renumbered, sure_in, twinned)
from tests.values import Raises, SaysEqual, numbers_from, some_values

RARE = Machine.read("machine ab\nstate 1 0 1\nstate 2 0 2\nstate 1 2 2")
TRUTHS = (is_guard, is_hope, is_promise, is_duty, comes_again, does_stay)
CALLS = (*TRUTHS, depth)


def kinds_in(machine):
    """The kinds, as all loops and the words of the document tell them."""
    even, odd = reached_loops(machine)
    lively, safe, reached = live_in(machine), sure_in(machine), reached_in(machine)
    again = not any(inner < outer for inner, outer in product(even, odd))
    stays = not any(inner < outer for inner, outer in product(odd, even))
    return {
        # An endless run outside of the wish without a bad beginning goes round in an odd loop of live states.
        is_guard: not any(loop <= set(lively) for loop in odd),
        is_hope: all(k in lively for k in reached),
        # An endless run of the wish without a good beginning goes round in an even loop of no sure states.
        is_promise: not any(not loop & set(safe) for loop in even),
        is_duty: again and stays,
        comes_again: again,
        does_stay: stays,
    }


class KindsCase(TestCase):
    def assert_refused(self, kind, value, call):
        with self.assertRaises(kind) as raised:
            call()
        self.assertIs(type(raised.exception), kind)
        self.assertIs(raised.exception.given, value)

    def assert_kinds(self, machine, told):
        """What is told is a string of the first letters of the kinds and the depth."""
        words = [word for call, word in zip(TRUTHS, ("g", "h", "p", "d", "a", "s")) if call(machine)]
        self.assertEqual("".join(words) + str(depth(machine)), told)


class AllLoopsTest(KindsCase):
    def test_as_all_loops_tell(self):
        met = {}
        for machine in mixed_machines(720, 91):
            told = kinds_in(machine)
            for call in TRUTHS:
                self.assertIs(call(machine), told[call], (call, str(machine)))
                met[call, told[call]] = met.get((call, told[call]), 0) + 1
        for call, truth in product(TRUTHS, (True, False)):
            self.assertGreater(met[call, truth], 40)

    def test_all_machines_of_two_states(self):
        rows = list(product(range(4), product(range(2), repeat=2)))
        for states in product(rows, repeat=2):
            machine = Machine("by", states)
            told = kinds_in(machine)
            self.assertEqual([call(machine) for call in TRUTHS], [told[call] for call in TRUTHS])
            self.assertEqual(depth(machine), depth_in(machine))

    def test_depth_as_all_loops_tell(self):
        met = {}
        for machine in mixed_machines(720, 92):
            got = depth(machine)
            self.assertEqual(got, depth_in(machine))
            self.assertIs(type(got), int)
            met[got] = True
        for colours in ((1, 2, 3, 4, 5, 6), (0, 1, 2, 3, 4, 5), (2, 3, 4, 5, 6), (3, 4, 5, 6), (1, 2, 3), (5, 6)):
            for order in (colours, colours[::-1], colours[1::2] + colours[::2]):
                for letters in ("ab", "abc"):
                    machine = ladder(letters, order)
                    self.assertEqual(depth(machine), depth_in(machine))
                    met[depth(machine)] = True
        self.assertEqual(sorted(met), list(range(7)))

    def test_the_greatest_depth(self):
        # Up, down or stay: each row of neighbours is a loop, and so is each single state.
        self.assertEqual(depth(ladder("abc", (1, 2, 3, 4, 5, 6))), 6)
        self.assertEqual(depth(ladder("abc", (0, 1, 2, 3, 4, 5))), 5)
        self.assertEqual(depth(ladder("abc", (2, 3, 4, 5, 6, 6))), 4)
        self.assertEqual(depth(opposite(ladder("abc", (1, 2, 3, 4, 5, 6)))), 5)
        self.assertEqual(depth(opposite(ladder("abc", (0, 1, 2, 3, 4, 5)))), 6)


class OfTheWishTest(KindsCase):
    def test_the_same_for_machines_that_are_alike(self):
        numbers = numbers_from(93)
        for machine in mixed_machines(240, 94):
            for other in [*disguised(machine, numbers), recoloured(machine), opposite(opposite(machine))]:
                self.assertEqual([call(other) for call in CALLS], [call(machine) for call in CALLS])
                for wanted in ("again", "stays"):
                    self.assertEqual(turning(other, wanted) is None, turning(machine, wanted) is None)

    def test_the_kinds_of_the_opposite(self):
        for machine in mixed_machines(240, 95):
            other = opposite(machine)
            self.assertIs(is_promise(machine), is_guard(other))
            self.assertIs(is_guard(machine), is_promise(other))
            self.assertIs(comes_again(machine), does_stay(other))
            self.assertIs(does_stay(machine), comes_again(other))
            self.assertIs(is_duty(machine), is_duty(other))
            self.assertIn(depth(other) - depth(machine), (-1, 0, 1))

    def test_guards_and_hopes_by_their_parts(self):
        for machine in mixed_machines(240, 96):
            self.assertIs(is_guard(machine), alike(machine, guard(machine)))
            self.assertIs(is_hope(machine), alike(machine, hope(machine)))
            self.assertIs(is_hope(machine), len(guard(machine)) == 1 and guard(machine).states[0][0] == 0)
            self.assertIs(is_guard(guard(machine)), True)
            self.assertIs(is_hope(hope(machine)), True)
            self.assertIs(is_promise(opposite(guard(machine))), True)

    def test_words_of_the_document_on_lassos(self):
        numbers = numbers_from(97)
        for machine in mixed_machines(180, 98):
            lively, safe = live_in(machine), sure_in(machine)
            for lasso in lassos_of(machine.letters, numbers, 12):
                far = behind(machine, lasso[0] + lasso[1] * 6)
                if is_guard(machine) and not lies_in(machine, lasso):
                    self.assertNotIn(far, lively)
                if is_hope(machine):
                    self.assertIn(far, lively)
                if is_promise(machine) and lies_in(machine, lasso):
                    self.assertIn(far, safe)

    def test_what_follows_from_what(self):
        for machine in mixed_machines(240, 99):
            if is_guard(machine) or is_promise(machine):
                self.assertIs(is_duty(machine), True)
            self.assertIs(is_duty(machine), comes_again(machine) and does_stay(machine))
            self.assertIs(does_stay(machine), depth(machine) <= 1)
            if comes_again(machine):
                self.assertLessEqual(depth(machine), 2)

    def test_states_that_are_not_reached_are_nothing_to_it(self):
        # Unseen loops of all kinds beside a wish of all runs.
        machine = Machine("ab", ((2, (0, 0)), (1, (2, 1)), (2, (3, 1)), (3, (4, 2)), (4, (5, 3)), (5, (5, 4))))
        self.assert_kinds(machine, "ghpdas0")
        self.assertIs(turning(machine, "again"), None)
        self.assertIs(turning(machine, "stays"), None)
        numbers = numbers_from(100)
        for machine in mixed_machines(180, 101):
            other = changed_unseen(machine, numbers)
            self.assertEqual([call(other) for call in CALLS], [call(machine) for call in CALLS])

    def test_no_run_and_all_runs(self):
        for letters, colour in product(("q", "ab", "xyz"), range(7)):
            machine = one_state(letters, colour)
            told = "gpdas1" if colour % 2 else "ghpdas0"
            self.assert_kinds(machine, told)
            numbers = numbers_from(colour)
            for _ in range(5):
                machine = twinned(machine, numbers)
                self.assert_kinds(renumbered(machine, numbers), told)

    def test_wishes_told_by_hand(self):
        for told, states in (
            # No two b side by side.
            ("gdas1", ((0, (0, 1)), (0, (0, 2)), (1, (2, 2)))),
            # Two b side by side at some time.
            ("hpdas1", ((1, (0, 1)), (1, (0, 2)), (0, (2, 2)))),
            # The first letter is a: a guard and a promise.
            ("gpdas1", ((0, (1, 2)), (0, (1, 1)), (1, (2, 2)))),
            # b comes again and again.
            ("ha2", ((1, (0, 1)), (2, (0, 1)))),
            # In the end only a comes.
            ("hs1", ((0, (0, 1)), (1, (0, 1)))),
            # b comes at some time, but no two side by side.
            ("das1", ((1, (0, 1)), (0, (2, 3)), (0, (2, 1)), (1, (3, 3)))),
            # The first letter is a, and b comes again and again.
            ("a2", ((1, (1, 3)), (1, (1, 2)), (2, (1, 2)), (1, (3, 3)))),
            # The first letter is a, and in the end only a comes.
            ("s1", ((1, (1, 3)), (0, (1, 2)), (1, (1, 2)), (1, (3, 3)))),
        ):
            self.assert_kinds(Machine("ab", states), told)

    def test_again_and_again_and_in_the_end(self):
        # In the end only a comes, or c comes again and again.
        machine = Machine("abc", ((0, (0, 1, 2)), (1, (0, 1, 2)), (2, (0, 1, 2))))
        self.assert_kinds(machine, "h2")
        self.assert_kinds(opposite(machine), "h3")


class TurningTest(KindsCase):
    def assert_triple(self, machine, got, evenness):
        """What [16] tells of the triple: evenness is that of the greatest colour of the first round."""
        self.assertIs(type(got), tuple)
        self.assertEqual([type(word) for word in got], [str, str, str])
        start, *rounds = got
        state = state_after(machine, start)
        tops = []
        for word in rounds:
            self.assertNotEqual(word, "")
            colours = []
            at = state
            for letter in word:
                at = behind(machine, letter, at)
                colours.append(machine.states[at][0])
            self.assertEqual(at, state)
            tops.append(max(colours))
        self.assertEqual([top % 2 for top in tops], [evenness, 1 - evenness])
        self.assertLess(tops[0], tops[1])
        self.assertEqual([lies_in(machine, (start, word)) for word in rounds], [evenness == 0, evenness == 1])

    def test_just_where_the_wish_does_not_come_again_or_stay(self):
        met = {}
        for machine in [*mixed_machines(480, 102), *(ladder("abc", (k, 6 - k, 3, k)) for k in range(7))]:
            told = kinds_in(machine)
            for wanted, call, evenness in (("again", comes_again, 0), ("stays", does_stay, 1)):
                got = turning(machine, wanted)
                if told[call]:
                    self.assertIs(got, None)
                else:
                    self.assert_triple(machine, got, evenness)
                met[wanted, got is None] = met.get((wanted, got is None), 0) + 1
        self.assertEqual(len(met), 4)
        self.assertGreater(min(met.values()), 40)

    def test_by_hand(self):
        # In the end only a comes: a round with b in it lies outside, around one of a alone.
        calm = Machine("ab", ((0, (0, 1)), (1, (0, 1))))
        self.assert_triple(calm, turning(calm, "again"), 0)
        self.assertIs(turning(calm, "stays"), None)
        self.assert_triple(RARE, turning(RARE, "stays"), 1)
        self.assertIs(turning(RARE, "again"), None)

    def test_rounds_that_take_a_whole_ring(self):
        for low, high, wanted in ((2, 5, "again"), (1, 6, "stays"), (4, 5, "again"), (3, 4, "stays")):
            # Five states in a ring; at the last one the second letter goes through one more.
            states = [(low if k == 2 else 0, ((k + 1) % 5, 5 if k == 4 else (k + 1) % 5)) for k in range(5)]
            machine = Machine("ab", (*states, (high, (0, 0))))
            self.assert_triple(machine, turning(machine, wanted), low % 2)
            self.assertIs(turning(machine, "stays" if wanted == "again" else "again"), None)

    def test_colours_of_the_way_are_nothing_to_it(self):
        machine = Machine("ab", ((6, (1, 1)), (5, (2, 2)), (0, (2, 3)), (1, (2, 3))))
        self.assert_triple(machine, turning(machine, "again"), 0)
        self.assertIs(turning(machine, "stays"), None)
        self.assertEqual(len(turning(machine, "again")[0]), 2)

    def test_wrong_words(self):
        wrong = ["bad", "good", "Again", "AGAIN", "stay", "again ", " stays", "aga", "stays\n", "againstays"]
        for value in [*wrong, ("again",), ["stays"], RARE, *some_values()]:
            self.assert_refused(InvalidVerdict, value, lambda: turning(RARE, value))
            self.assert_refused(InvalidVerdict, value, lambda: turning(machine=RARE, wanted=value))

    def test_the_machine_is_looked_at_first(self):
        for value in no_machines():
            for wanted in ("again", "bad", None, Raises(), SaysEqual()):
                self.assert_refused(NotAMachine, value, lambda: turning(value, wanted))

    def test_by_name(self):
        self.assertEqual(turning(wanted="stays", machine=RARE), turning(RARE, "stays"))


class AllKindsTest(KindsCase):
    def test_wrong_machines(self):
        for call, value in product(CALLS, [*no_machines(), Raises()]):
            self.assert_refused(NotAMachine, value, lambda: call(value))
            self.assert_refused(NotAMachine, value, lambda: call(machine=value))

    def test_by_name(self):
        for call in CALLS:
            self.assertEqual(call(machine=RARE), call(RARE))

    def test_same_results_each_time_and_unchanged_machines(self):
        for machine in mixed_machines(60, 103):
            text = str(machine)
            for call in CALLS:
                self.assertEqual(call(Machine.read(text)), call(machine))
            for wanted in ("again", "stays"):
                self.assertEqual(turning(Machine.read(text), wanted), turning(machine, wanted))
            self.assertEqual(str(machine), text)

    def test_defined_in_its_file(self):
        for name in (
            "is_guard", "is_hope", "is_promise", "is_duty", "comes_again", "does_stay", "depth", "turning",
        ):
            self.assertEqual(getattr(kinds, name).__module__, "guardhopes.kinds")

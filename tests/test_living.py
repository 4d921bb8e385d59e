from itertools import product
from unittest import TestCase

from guardhopes import living
from guardhopes.errors import InvalidVerdict, InvalidWord, NotAMachine
from guardhopes.living import is_watchable, live, shortest, sure, verdict
from guardhopes.machines import Machine
from tests.loops import (
    arrows_in, behind, changed_unseen, disguised, goes_to, live_in, mixed_machines, no_machines, one_state,
    reached_in, sure_in, word_of, words_up_to)
from tests.values import Raises, SaysEqual, numbers_from, odd_values, some_values

RARE = Machine.read("machine ab\nstate 1 0 1\nstate 2 0 2\nstate 1 2 2")
# Four letters lead to the bad end, if they are the right ones; any other one to the good end.
MAZE = Machine("abc", (
    (1, (1, 4, 4)), (2, (4, 4, 2)), (1, (4, 3, 4)), (0, (5, 4, 5)), (6, (4, 4, 4)), (5, (5, 5, 5))))


class LivingCase(TestCase):
    def assert_refused(self, kind, value, call):
        with self.assertRaises(kind) as raised:
            call()
        self.assertIs(type(raised.exception), kind)
        self.assertIs(raised.exception.given, value)

    def assert_numbers(self, value):
        self.assertIs(type(value), tuple)
        for number in value:
            self.assertIs(type(number), int)
        self.assertEqual(list(value), sorted(set(value)))


class LiveAndSureTest(LivingCase):
    def test_as_all_loops_tell(self):
        for machine in mixed_machines(540, 21):
            with self.subTest(str(machine)):
                self.assertEqual(live(machine), live_in(machine))
                self.assertEqual(sure(machine), sure_in(machine))
                self.assert_numbers(live(machine))
                self.assert_numbers(sure(machine))

    def test_all_machines_of_two_states(self):
        rows = list(product(range(3), product(range(2), repeat=2)))
        for states in product(rows, repeat=2):
            machine = Machine("by", states)
            self.assertEqual(live(machine), live_in(machine))
            self.assertEqual(sure(machine), sure_in(machine))

    def test_one_state_of_each_colour(self):
        for letters, colour in product(("q", "ab", "xyz"), range(7)):
            machine = one_state(letters, colour)
            self.assertEqual(live(machine), () if colour % 2 else (0,))
            self.assertEqual(sure(machine), () if colour % 2 else (0,))

    def test_no_run_and_all_runs(self):
        for letters, count, greatest in product(("q", "ab", "xyz"), range(1, 7), range(7)):
            states = tuple(
                (greatest if k % 2 else greatest % 2, tuple((k + 1 + j) % count for j in range(len(letters))))
                for k in range(count))
            machine = Machine(letters, states)
            some = tuple(range(count))
            self.assertEqual(live(machine), () if greatest % 2 else some)
            self.assertEqual(sure(machine), () if greatest % 2 else some)

    def test_states_that_are_not_reached(self):
        machine = Machine("a", ((0, (0,)), (1, (1,)), (1, (0,)), (2, (3,)), (0, (1,)), (3, (3,))))
        self.assertEqual(live(machine), (0, 2, 3, 5))
        self.assertEqual(sure(machine), (0, 2, 3, 5))
        open_state = Machine("ab", ((1, (0, 0)), (1, (1, 2)), (2, (1, 2)), (4, (3, 1))))
        self.assertEqual(live(open_state), (1, 2, 3))
        self.assertEqual(sure(open_state), ())

    def test_a_loop_in_a_loop(self):
        # The even loop lies within an odd one, and the other way round.
        self.assertEqual(live(Machine("ab", ((5, (1, 0)), (2, (1, 0))))), (0, 1))
        self.assertEqual(sure(Machine("ab", ((5, (1, 0)), (2, (1, 0))))), ())
        self.assertEqual(sure(Machine("ab", ((6, (1, 0)), (3, (1, 0))))), ())
        self.assertEqual(live(Machine("ab", ((5, (1, 0)), (3, (1, 0))))), ())
        self.assertEqual(sure(Machine("ab", ((4, (1, 1)), (3, (0, 0))))), (0, 1))

    def test_wrong_machines(self):
        for call in (live, sure, is_watchable):
            for value in no_machines():
                self.assert_refused(NotAMachine, value, lambda: call(value))

    def test_by_name(self):
        self.assertEqual([live(machine=RARE), sure(machine=RARE)], [(0, 1), ()])
        self.assertIs(is_watchable(machine=RARE), True)


class VerdictTest(LivingCase):
    def test_as_the_states_tell(self):
        met = {}
        for machine in mixed_machines(300, 22):
            lively, safe = live_in(machine), sure_in(machine)
            for word in words_up_to(machine.letters, 3):
                state = behind(machine, word)
                told = "bad" if state not in lively else "good" if state in safe else "open"
                got = verdict(machine, word)
                self.assertEqual(got, told)
                self.assertIs(type(got), str)
                met[told] = met.get(told, 0) + 1
        self.assertTrue(min(met[told] for told in ("bad", "good", "open")) > 500)

    def test_the_empty_word(self):
        self.assertEqual(verdict(RARE, ""), "open")
        for colour in range(7):
            self.assertEqual(verdict(one_state("ab", colour), ""), "bad" if colour % 2 else "good")

    def test_what_is_bad_or_good_stays_so(self):
        numbers = numbers_from(23)
        for machine in mixed_machines(150, 24):
            for word in words_up_to(machine.letters, 2):
                told = verdict(machine, word)
                for _ in range(4):
                    longer = word + word_of(machine.letters, numbers, next(numbers) % 198)
                    if told != "open":
                        self.assertEqual(verdict(machine, longer), told)

    def test_words_of_200_letters_and_of_201(self):
        self.assertEqual(verdict(RARE, "ab" * 100), "open")
        self.assertEqual(verdict(RARE, "ab" * 99 + "bb"), "bad")
        self.assertEqual(verdict(RARE, "bb" + "a" * 198), "bad")
        self.assertEqual(verdict(MAZE, "b" + "a" * 199), "good")
        for word in ("a" * 201, "b" * 201, "ab" * 100 + "a", "a" * 8000):
            self.assert_refused(InvalidWord, word, lambda: verdict(RARE, word))

    def test_what_is_no_word(self):
        wrong = ["c", "A", "abc", " ", "a ", "\n", "ab\n", "1", "a" * 199 + "c", 0, 1, (), ("a",), RARE, *odd_values()]
        for word in wrong:
            self.assert_refused(InvalidWord, word, lambda: verdict(RARE, word))

    def test_the_machine_is_looked_at_first(self):
        for value in no_machines():
            for word in ("", "ab", "c", None, Raises()):
                self.assert_refused(NotAMachine, value, lambda: verdict(value, word))

    def test_by_name(self):
        self.assertEqual(verdict(word="abb", machine=RARE), "bad")


class ShortestTest(LivingCase):
    def test_the_first_of_all_words(self):
        met = {}
        for machine in mixed_machines(360, 25):
            words = words_up_to(machine.letters, 5)
            for wanted in ("bad", "good"):
                told = [word for word in words if verdict(machine, word) == wanted]
                got = shortest(machine, wanted)
                self.assertEqual(got, told[0] if told else None)
                met[got] = True
        self.assertIn(None, met)
        self.assertIn("", met)
        self.assertTrue(max(len(word) for word in met if word is not None) >= 3)

    def test_shorter_ones_first_then_the_alphabet(self):
        self.assertEqual(shortest(MAZE, "bad"), "acba")
        self.assertEqual(shortest(MAZE, "good"), "b")
        # The shorter way begins with the later letter.
        ways = Machine("az", ((1, (1, 2)), (1, (2, 2)), (2, (3, 0)), (1, (3, 3))))
        self.assertEqual(shortest(ways, "bad"), "za")
        # Two ways of the same length; the first one is met behind the other state.
        both = Machine("az", ((1, (2, 1)), (2, (3, 1)), (2, (0, 3)), (1, (3, 3))))
        self.assertEqual(shortest(both, "bad"), "az")

    def test_the_longest_ones(self):
        for end, wanted in ((1, "bad"), (2, "good")):
            states = [(3 - end, (0, 1)), *((3 - end, (0, k + 1)) for k in range(1, 5)), (end, (5, 5))]
            chain = Machine("ab", tuple(states))
            self.assertEqual(shortest(chain, wanted), "bbbbb")
            self.assertIs(shortest(chain, "good" if wanted == "bad" else "bad"), None)

    def test_the_empty_word_and_none(self):
        for letters, colour in product(("q", "ab", "xyz"), range(7)):
            machine = one_state(letters, colour)
            self.assertEqual(shortest(machine, "bad"), "" if colour % 2 else None)
            self.assertEqual(shortest(machine, "good"), None if colour % 2 else "")

    def test_states_that_are_not_reached_are_nothing_to_it(self):
        machine = Machine("ab", ((1, (0, 1)), (2, (0, 1)), (1, (2, 2)), (2, (3, 3))))
        self.assertEqual([live(machine), sure(machine)], [(0, 1, 3), (3,)])
        self.assertIs(shortest(machine, "bad"), None)
        self.assertIs(shortest(machine, "good"), None)

    def test_of_the_wish_and_not_of_the_machine(self):
        numbers = numbers_from(26)
        for machine in mixed_machines(120, 27):
            for other in disguised(machine, numbers):
                for wanted in ("bad", "good"):
                    self.assertEqual(shortest(other, wanted), shortest(machine, wanted))
                self.assertIs(is_watchable(other), is_watchable(machine))

    def test_wrong_words(self):
        wrong = ["open", "Bad", "BAD", "bad ", " good", "ba", "d", "goodbad", "badgood", "again", "stays"]
        for value in [*wrong, ("bad",), ["good"], RARE, *some_values()]:
            self.assert_refused(InvalidVerdict, value, lambda: shortest(RARE, value))
            self.assert_refused(InvalidVerdict, value, lambda: shortest(machine=RARE, wanted=value))

    def test_the_machine_is_looked_at_first(self):
        for value in no_machines():
            for wanted in ("bad", "open", None, Raises(), SaysEqual()):
                self.assert_refused(NotAMachine, value, lambda: shortest(value, wanted))

    def test_by_name(self):
        self.assertEqual(shortest(wanted="bad", machine=RARE), "bb")


class WatchableTest(LivingCase):
    def test_as_all_reached_states_tell(self):
        met = []
        for machine in mixed_machines(540, 28):
            ends = {k for k in range(len(machine)) if k not in live_in(machine) or k in sure_in(machine)}
            told = all(
                ends & ({k} | goes_to(arrows_in(machine), k, range(len(machine)))) for k in reached_in(machine))
            self.assertIs(is_watchable(machine), told)
            met.append(told)
        self.assertTrue(50 < sum(met) < 490)

    def test_by_words(self):
        for machine in mixed_machines(60, 29):
            words = words_up_to(machine.letters, 5)
            # One beginning for each state that words of up to five letters meet: so for all.
            begins = {behind(machine, word): word for word in words}
            told = all(
                any(verdict(machine, begin + word) != "open" for word in words) for begin in begins.values())
            self.assertIs(is_watchable(machine), told)

    def test_states_that_are_not_reached_are_nothing_to_it(self):
        # The unseen ones are open for ever.
        calm = Machine("ab", ((0, (0, 0)), (1, (1, 2)), (2, (1, 2))))
        self.assertIs(is_watchable(calm), True)
        # Open for ever; the unseen ones have ends.
        never = Machine("ab", ((1, (0, 1)), (2, (0, 1)), (1, (2, 2)), (2, (3, 3)), (2, (3, 2))))
        self.assertIs(is_watchable(never), False)
        numbers = numbers_from(30)
        for machine in mixed_machines(120, 31):
            self.assertIs(is_watchable(changed_unseen(machine, numbers)), is_watchable(machine))

    def test_one_beginning_that_stays_open_for_ever(self):
        machine = Machine("ab", ((0, (1, 2)), (0, (1, 1)), (1, (2, 3)), (2, (2, 3))))
        self.assertIs(is_watchable(machine), False)
        self.assertIs(is_watchable(machine.changed((3, "a", 1))), True)

    def test_no_run_and_all_runs(self):
        for letters, colour in product(("q", "ab", "xyz"), range(7)):
            self.assertIs(is_watchable(one_state(letters, colour)), True)


class SameEachTimeTest(LivingCase):
    def test_same_results_and_unchanged_machines(self):
        for machine in mixed_machines(60, 32):
            text = str(machine)
            twin = Machine.read(text)
            for call in (live, sure, is_watchable):
                self.assertEqual(call(machine), call(twin))
            for wanted in ("bad", "good"):
                self.assertEqual(shortest(machine, wanted), shortest(twin, wanted))
            self.assertEqual(str(machine), text)

    def test_defined_in_its_file(self):
        for name in ("live", "sure", "verdict", "shortest", "is_watchable"):
            self.assertEqual(getattr(living, name).__module__, "guardhopes.living")

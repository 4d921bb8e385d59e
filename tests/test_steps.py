from itertools import product

from guardhopes import steps
from guardhopes.errors import NotAMachine, OtherLetters
from guardhopes.likeness import alike
from guardhopes.living import verdict
from guardhopes.machines import Machine
from guardhopes.parts import guard, hope, opposite, recoloured
from guardhopes.runs import lies_in
from guardhopes.steps import in_step, jam
from tests.cases import Case
from tests.loops import (
    behind, disguised, jammed_pairs, ladder, lassos_of, live_in, mixed_machines, no_machines, one_state, pairs_of,
    words_up_to)
from tests.values import Raises, SaysEqual, numbers_from

RARE = Machine.read("machine ab\nstate 1 0 1\nstate 2 0 2\nstate 1 2 2")
SOME = Machine("ab", ((1, (1, 0)), (0, (1, 1))))
CALM = Machine("ab", ((0, (0, 1)), (1, (1, 1))))
CALLS = (jam, in_step)
# A machine that knows how far a word has gone; it takes only runs whose first letters are a, b, b, a.
CODE = Machine("ab", ((0, (1, 5)), (0, (5, 2)), (0, (5, 3)), (0, (4, 5)), (0, (4, 4)), (1, (5, 5))))


def first_jam(one, other):
    """The first jam in the order of the document: goes through the words by their length, without pairs met."""
    jammed = jammed_pairs(one, other)
    words = [""]
    met = set()
    while words:
        longer = []
        for word in words:
            pair = behind(one, word) * len(other) + behind(other, word)
            if pair in jammed:
                return word
            if pair not in met:
                met.add(pair)
                longer += [word + letter for letter in one.letters]
        words = longer
    return None


class JamTest(Case):
    def assert_jam(self, one, other, word):
        self.assertEqual(jam(one, other), word)
        self.assertIs(type(jam(one, other)), type(word))
        self.assertIs(in_step(one, other), word is None)

    def test_as_a_look_at_all_colours_tells(self):
        met = {}
        for first, second in pairs_of(400, 101):
            for one, other in ((first, second), (second, first)):
                word = first_jam(one, other)
                self.assert_jam(one, other, word)
                met[word] = met.get(word, 0) + 1
        self.assertGreater(len(met), 12)
        self.assertGreater(met[None], 100)
        self.assertGreater(met[""], 50)

    def test_greatest_machines(self):
        numbers = numbers_from(102)
        met = set()
        for k in range(40):
            one, other = (
                Machine("abc", tuple(
                    (next(numbers) % 7, tuple(next(numbers) % (6 if k % 2 else min(at + 2, 6)) for _ in range(3)))
                    for at in range(6)))
                for _ in range(2))
            for pair in ((one, other), (other, one), (one, opposite(one)), (one, opposite(other))):
                self.assert_jam(*pair, first_jam(*pair))
                met.add(jam(*pair))
        self.assertGreater(len(met), 3)

    def test_by_words_and_lassos(self):
        lassos = list(product(words_up_to("ab", 3), words_up_to("ab", 3)[1:]))
        words = words_up_to("ab", 4)
        for states in product(product((0, 1, 2), product(range(2), repeat=2)), repeat=2):
            other = Machine("ab", states)
            for one in (RARE, SOME, CALM):
                word = jam(one, other)
                both = [lasso for lasso in lassos if lies_in(one, lasso) and lies_in(other, lasso)]
                for beginning in words:
                    goes_on = any((start + turn * 4).startswith(beginning) for start, turn in both)
                    if verdict(one, beginning) != "bad" and not goes_on and len(beginning) < 2:
                        self.assertIsNotNone(word)
                        self.assertLessEqual((len(word), word), (len(beginning), beginning))
                if word is not None:
                    self.assertNotEqual(verdict(one, word), "bad")
                    self.assertFalse([1 for start, turn in both if (start + turn * 4).startswith(word)])

    def test_the_first_one_of_equally_long_ones(self):
        # After the second letter both ways are lost; b leads there as well as a, c does not.
        other = Machine("abc", ((0, (1, 1, 0)), (0, (2, 2, 0)), (1, (2, 2, 2))))
        every = one_state("abc", 0)
        self.assert_jam(every, other, "aa")
        self.assert_jam(every, Machine("abc", ((0, (0, 1, 1)), (0, (0, 2, 2)), (1, (2, 2, 2)))), "bb")
        # Only runs that begin with b and a are in the first one: aa is bad there, so it is no jam.
        begins = Machine("abc", ((0, (2, 1, 2)), (0, (1, 1, 1)), (1, (2, 2, 2))))
        self.assert_jam(begins, other, "ba")
        self.assert_jam(every, begins, "a")

    def test_far_jams(self):
        every = one_state("ab", 0)
        self.assert_jam(every, CODE, "b")
        self.assert_jam(CODE, every, None)
        self.assert_jam(CODE, CODE, None)
        bad_behind = Machine("ab", ((0, (1, 0)), (0, (1, 2)), (0, (1, 3)), (1, (3, 3))))
        self.assert_jam(CODE, bad_behind, "")
        self.assert_jam(every, bad_behind, "abb")
        # With one letter there is just one run.
        six = Machine("a", tuple((0, ((k + 1) % 6,)) for k in range(6)))
        self.assert_jam(six, Machine("a", tuple((0, ((k + 1) % 5,)) for k in range(5))), None)
        self.assert_jam(six, Machine("a", tuple((k // 4, ((k + 1) % 5,)) for k in range(5))), "")
        late = Machine("ab", (
            (0, (1, 0)), (0, (2, 0)), (0, (3, 0)), (0, (4, 0)), (0, (5, 0)), (1, (5, 5))))
        ring = Machine("ab", tuple((0, ((k + 1) % 3, k)) for k in range(3)))
        self.assert_jam(ring, late, "aaaaa")

    def test_a_jam_that_hangs_on_both_states(self):
        # The first one wants a again and again, the second one in the end b only: each alone can always go on.
        again = Machine("ab", ((1, (1, 0)), (2, (1, 0))))
        ends = Machine("ab", ((1, (0, 1)), (0, (0, 1))))
        self.assert_jam(again, ends, "")
        self.assert_jam(ends, again, "")
        # Once an a was heard, the first one wants nothing else.
        first = Machine("ab", ((1, (1, 0)), (0, (1, 1))))
        self.assert_jam(first, ends, None)
        self.assert_jam(ends, first, None)
        # Up to the first b both can be kept, behind it not.
        safe = Machine("ab", ((0, (0, 1)), (1, (2, 1)), (2, (2, 1))))
        lost = Machine("ab", ((0, (0, 1)), (1, (2, 1)), (1, (2, 1))))
        self.assert_jam(safe, lost, "b")
        self.assert_jam(lost, safe, None)

    def test_dead_states_ahead_of_live_ones(self):
        nothing, everything = one_state("ab", 1), one_state("ab", 2)
        self.assert_jam(nothing, everything, None)
        self.assert_jam(nothing, nothing, None)
        self.assert_jam(everything, nothing, "")
        self.assert_jam(everything, everything, None)
        self.assert_jam(SOME, nothing, "")


class WishesTest(Case):
    def test_a_wish_with_its_guard_and_hope(self):
        for machine in mixed_machines(240, 103):
            for one, other in (
                (machine, machine), (machine, guard(machine)), (guard(machine), machine), (machine, hope(machine)),
                (guard(machine), hope(machine)),
            ):
                self.assertIs(in_step(one, other), True)
                self.assertIs(jam(one, other), None)

    def test_the_opposite_never_goes_with_the_wish(self):
        for machine in mixed_machines(240, 104):
            word = None if live_in(machine) == () or 0 not in live_in(machine) else ""
            self.assertEqual(jam(machine, opposite(machine)), word)

    def test_the_same_for_machines_that_are_alike(self):
        numbers = numbers_from(105)
        for one, other in pairs_of(60, 106):
            word = jam(one, other)
            for first, second in zip([*disguised(one, numbers), recoloured(one)],
                                     [*disguised(other, numbers), recoloured(other)]):
                self.assertTrue(alike(one, first) and alike(other, second))
                self.assertEqual([jam(first, second), jam(one, second), jam(first, other)], [word] * 3)
                self.assertIs(in_step(first, second), word is None)

    def test_true_of_many_lassos(self):
        numbers = numbers_from(107)
        met = 0
        for one, other in pairs_of(150, 108):
            word = jam(one, other)
            if word is None:
                continue
            self.assertNotEqual(verdict(one, word), "bad")
            for start, turn in lassos_of(one.letters, numbers, 20):
                lasso = (word + start, turn)
                self.assertFalse(lies_in(one, lasso) and lies_in(other, lasso))
                met += lies_in(one, lasso)
        self.assertGreater(met, 100)

    def test_ladders(self):
        for one, other in product(
            [ladder("abc", colours) for colours in ((1, 2, 3, 4, 5, 6), (0, 1, 2, 3, 4, 5), (2, 1, 1, 1, 4, 3))],
            repeat=2,
        ):
            self.assertEqual(jam(one, other), first_jam(one, other))


class ErrorsTest(Case):
    def test_no_machine_in_each_place(self):
        for call, value in product(CALLS, no_machines()):
            self.assert_given(NotAMachine, value, lambda: call(value, RARE))
            self.assert_given(NotAMachine, value, lambda: call(RARE, value))
            self.assert_given(NotAMachine, value, lambda: call(other=value, one=RARE))
            self.assert_given(NotAMachine, value, lambda: call(value, None))
            self.assert_given(NotAMachine, value, lambda: call(value, Raises()))
            self.assert_given(NotAMachine, value, lambda: call(value, SaysEqual()))

    def test_other_letters_last(self):
        alphabet = [one_state(letters, 0) for letters in ("a", "b", "ab", "ac", "abc", "bc", "abd")]
        for call, one, other in product(CALLS, alphabet, alphabet):
            if one.letters != other.letters:
                self.assert_given(OtherLetters, other, lambda: call(one, other))
                self.assert_given(OtherLetters, other, lambda: call(other=other, one=one))
            else:
                self.assertIn(call(one, other), (None, True))

    def test_by_name_and_the_same_each_time(self):
        self.assertEqual(jam(other=RARE, one=CALM), "")
        self.assertEqual(jam(other=CALM, one=guard(RARE)), "b")
        self.assertIs(in_step(other=RARE, one=CALM), False)
        self.assertIs(in_step(other=SOME, one=CALM), True)
        for one, other in pairs_of(60, 109):
            texts = str(one), str(other)
            self.assertEqual(jam(one, other), jam(Machine.read(texts[0]), Machine.read(texts[1])))
            self.assertEqual((str(one), str(other)), texts)

    def test_defined_in_its_file(self):
        for name in ("jam", "in_step"):
            self.assertEqual(getattr(steps, name).__module__, "guardhopes.steps")

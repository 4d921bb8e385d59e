from itertools import product

from guardhopes import certificates
from guardhopes.certificates import certify, certify_open, certify_pair, certify_step, certify_within
from guardhopes.checker import accepts
from guardhopes.errors import InvalidDemand, InvalidWord, NotAMachine, OtherLetters
from guardhopes.kinds import turning
from guardhopes.likeness import breaking, parting
from guardhopes.machines import Machine
from guardhopes.parts import guard, hope, opposite, recoloured
from guardhopes.runs import lies_in
from guardhopes.steps import jam
from tests.cases import Case
from tests.demands import (
    KINDS, alike_in, demands_elsewhere, goes_round_evenly, holds_in, no_demands_at_all, some_demands, verdict_in,
    within_in)
from tests.loops import (
    behind, disguised, jammed_pairs, ladder, lassos_of, mixed_machines, no_machines, one_state, pairs_of, word_of,
    words_up_to)
from tests.values import Raises, SaysEqual, numbers_from, odd_values, some_values

RARE = Machine.read("machine ab\nstate 1 0 1\nstate 2 0 2\nstate 1 2 2")
SOME = Machine("ab", ((1, (1, 0)), (0, (1, 1))))
CALM = Machine("ab", ((0, (0, 1)), (1, (1, 1))))
PAIRS = (certify_pair, certify_within, certify_step)


class CertificatesCase(Case):
    def assert_paper(self, paper, *claim):
        """The paper has this claim, and the checker accepts it."""
        self.assertIs(type(paper), tuple)
        self.assertEqual(len(paper), 2)
        self.assertEqual(paper[0], claim)
        self.assertIs(type(paper[0]), tuple)
        self.assertIs(accepts(*paper), True)


class PairsTest(CertificatesCase):
    def assert_papers(self, one, other):
        """All papers of two machines; whether they are alike, one within the other, and in step."""
        texts = str(one), str(other)
        paper = certify_pair(one, other)
        alike = alike_in(one, other)
        self.assert_paper(paper, "same" if alike else "parted", *texts)
        if alike:
            self.assertEqual(paper[1], ())
        else:
            self.assertNotEqual(goes_round_evenly(one, paper[1]), goes_round_evenly(other, paper[1]))
            self.assertEqual(paper[1], parting(one, other))
        paper = certify_within(one, other)
        within = within_in(one, other)
        self.assert_paper(paper, "inside" if within else "breaks", *texts)
        if within:
            self.assertEqual(paper[1], ())
        else:
            self.assertTrue(goes_round_evenly(one, paper[1]) and not goes_round_evenly(other, paper[1]))
            self.assertEqual(paper[1], breaking(one, other))
        paper = certify_step(one, other)
        in_step = jam(one, other) is None
        self.assert_paper(paper, "step" if in_step else "jams", *texts)
        if in_step:
            self.assertEqual(paper[1], ())
        else:
            self.assertIn(
                behind(one, paper[1]) * len(other) + behind(other, paper[1]), jammed_pairs(one, other))
        return alike, within, in_step

    def test_many_pairs(self):
        numbers = numbers_from(191)
        met = {}
        for first, second in pairs_of(120, 192):
            for one, other in ((first, second), (second, first)):
                told = self.assert_papers(one, other)
                met[told] = True
        for machine in mixed_machines(40, 193):
            for other in (machine, guard(machine), hope(machine), opposite(machine), recoloured(machine)):
                met[self.assert_papers(machine, other)] = True
                met[self.assert_papers(other, machine)] = True
            self.assertEqual(self.assert_papers(machine, disguised(machine, numbers)[0]), (True, True, True))
        self.assertEqual(len(met), 4)

    def test_greatest_machines(self):
        numbers = numbers_from(194)
        for _ in range(20):
            one, other = (
                Machine("abc", tuple(
                    (next(numbers) % 7, tuple(next(numbers) % 6 for _ in range(3))) for _ in range(6)))
                for _ in range(2))
            self.assert_papers(one, other)
            self.assert_papers(one, one.changed((next(numbers) % 6, "colour", next(numbers) % 7)))
        self.assert_papers(ladder("abc", (1, 2, 3, 4, 5, 6)), ladder("abc", (1, 2, 3, 4, 5, 5)))

    def test_the_empty_jam_is_no_empty_certificate(self):
        paper = certify_step(CALM, RARE)
        self.assertEqual(paper, (("jams", str(CALM), str(RARE)), ""))
        self.assertEqual(certify_step(RARE, RARE), (("step", str(RARE), str(RARE)), ()))


class OpenTest(CertificatesCase):
    def assert_open(self, machine, word):
        told = verdict_in(machine, word)
        paper = certify_open(machine, word)
        if told == "open":
            self.assert_paper(paper, "open", str(machine), word)
            for lasso, truth in zip(paper[1], (True, False)):
                self.assertTrue(lasso[0].startswith(word))
                self.assertIs(goes_round_evenly(machine, lasso), truth)
        else:
            self.assert_paper(paper, "holds", str(machine), (told, word))
            self.assertEqual(paper[1], ())
        return told

    def test_many_beginnings(self):
        numbers = numbers_from(195)
        met = {}
        for machine in mixed_machines(240, 196):
            for length in (0, 1, 2, 5):
                told = self.assert_open(machine, word_of(machine.letters, numbers, length))
                met[told] = met.get(told, 0) + 1
        self.assertGreater(min(met.values()), 50)

    def test_longest_words(self):
        for word in ("a" * 200, "ab" * 100, "b" * 200, "ab" * 99 + "bb"):
            self.assert_open(RARE, word)
            self.assert_open(SOME, word)
            self.assert_open(one_state("ab", 1), word)
        paper = certify_open(RARE, "a" * 200)
        self.assertGreaterEqual(len(paper[1][0][0]), 200)

    def test_papers_of_any_length_can_be_changed_and_passed(self):
        claim, (inside, outside) = certify_open(RARE, "ab" * 100)
        self.assertIs(accepts(claim, (outside, inside)), False)
        longer = tuple((start + turn * 9, turn * 9) for start, turn in (inside, outside))
        self.assertIs(accepts(claim, longer), True)
        self.assertIs(accepts((*claim[:2], claim[2] + "a"), longer), False)
        self.assertIs(accepts((*claim[:2], claim[2][:9]), longer), True)

    def test_in_the_end_of_mazes(self):
        maze = Machine("abc", (
            (1, (1, 4, 4)), (2, (4, 4, 2)), (1, (4, 3, 4)), (0, (5, 4, 5)), (6, (4, 4, 4)), (5, (5, 5, 5))))
        for word in words_up_to("abc", 4):
            self.assert_open(maze, word)


class DemandsTest(CertificatesCase):
    def assert_certified(self, machine, demand):
        text = str(machine)
        paper = certify(machine, demand)
        truth = holds_in(machine, demand)
        if truth:
            self.assertEqual(paper, (("holds", text, demand), ()))
        elif demand in (("again",), ("stays",)):
            self.assert_paper(paper, "not" + demand[0], text)
            self.assertEqual(paper[1], turning(machine, demand[0]))
        elif demand[0] == "like":
            self.assert_paper(paper, "parted", text, demand[1])
            other = Machine.read(demand[1])
            self.assertNotEqual(lies_in(machine, paper[1]), lies_in(other, paper[1]))
        else:
            self.assertEqual(paper, (("fails", text, demand), ()))
        self.assert_paper(paper, *paper[0])
        return truth

    def test_many_demands(self):
        numbers = numbers_from(197)
        met = {}
        for machine in mixed_machines(150, 198):
            for demand in some_demands(machine, numbers):
                truth = self.assert_certified(machine, demand)
                met[demand[0], truth] = met.get((demand[0], truth), 0) + 1
        self.assertEqual(len(met), 26)

    def test_ladders(self):
        for colours, letters in product(
            ((1, 2, 3, 4, 5, 6), (0, 1, 2, 3, 4, 5), (2, 2, 3), (1, 1, 2), (1, 2), (2, 1), (5,)), ("q", "ab", "xyz")
        ):
            machine = ladder(letters, colours)
            for kind in KINDS:
                self.assert_certified(machine, (kind,))
            for number in range(7):
                self.assert_certified(machine, ("depth", number))

    def test_longest_words(self):
        for word in ("a" * 200, "ab" * 100, ""):
            for demand in (("bad", word), ("good", word), ("in", (word, "ab" * 100)), ("out", (word, "a" * 200))):
                self.assert_certified(RARE, demand)

    def test_as_the_document_tells(self):
        self.assertEqual(certify(RARE, ("again",)), (("holds", str(RARE), ("again",)), ()))
        self.assertEqual(certify(RARE, ("depth", 1)), (("fails", str(RARE), ("depth", 1)), ()))
        self.assertEqual(certify(RARE, ("good", "a")), (("fails", str(RARE), ("good", "a")), ()))
        text = str(CALM)
        self.assertEqual(certify(RARE, ("like", text))[0], ("parted", str(RARE), text))


class ErrorsTest(CertificatesCase):
    def test_no_machine_in_each_place(self):
        for call, value in product(PAIRS, no_machines()):
            self.assert_given(NotAMachine, value, lambda: call(value, RARE))
            self.assert_given(NotAMachine, value, lambda: call(RARE, value))
            self.assert_given(NotAMachine, value, lambda: call(value, None))
            self.assert_given(NotAMachine, value, lambda: call(other=value, one=RARE))
        for call, value in product((certify, certify_open), no_machines()):
            self.assert_given(NotAMachine, value, lambda: call(value, None))
            self.assert_given(NotAMachine, value, lambda: call(value, "a"))
            self.assert_given(NotAMachine, value, lambda: call(value, ("guard",)))
        self.assert_given(NotAMachine, None, lambda: certify_open(word="a", machine=None))
        self.assert_given(NotAMachine, None, lambda: certify(demand=("guard",), machine=None))

    def test_other_letters_last(self):
        alphabet = [one_state(letters, 0) for letters in ("a", "b", "ab", "ac", "abc", "bc")]
        for call, one, other in product(PAIRS, alphabet, alphabet):
            if one.letters != other.letters:
                self.assert_given(OtherLetters, other, lambda: call(one, other))
                self.assert_given(OtherLetters, other, lambda: call(other=other, one=one))
            else:
                self.assertIs(accepts(*call(one, other)), True)

    def test_no_word(self):
        for value in [*odd_values(), "c", "abc", "A", " ", "a ", "a\n", "a" * 201, 0, (), ("a",), ("", "a")]:
            self.assert_given(InvalidWord, value, lambda: certify_open(RARE, value))
            self.assert_given(InvalidWord, value, lambda: certify_open(word=value, machine=RARE))

    def test_no_demand(self):
        for value in [*some_values(), *no_demands_at_all(), *demands_elsewhere(), Raises(), SaysEqual()]:
            self.assert_given(InvalidDemand, value, lambda: certify(RARE, value))
            self.assert_given(InvalidDemand, value, lambda: certify(demand=value, machine=RARE))

    def test_by_name_the_same_each_time_and_nothing_changes(self):
        texts = str(RARE), str(CALM)
        for call in PAIRS:
            self.assertEqual(call(other=CALM, one=RARE), call(*map(Machine.read, texts)))
        self.assertEqual(certify_open(word="a", machine=RARE), certify_open(Machine.read(texts[0]), "a"))
        self.assertEqual(certify(demand=("stays",), machine=RARE), certify(Machine.read(texts[0]), ("stays",)))
        self.assertEqual((str(RARE), str(CALM)), texts)

    def test_defined_in_its_file(self):
        for name in ("certify_pair", "certify_within", "certify_step", "certify_open", "certify"):
            self.assertEqual(getattr(certificates, name).__module__, "guardhopes.certificates")


class WishesTest(CertificatesCase):
    def test_of_a_wish_its_guard_its_hope_and_its_opposite(self):
        numbers = numbers_from(199)
        for machine in mixed_machines(120, 200):
            safe, good, other = guard(machine), hope(machine), opposite(machine)
            self.assertEqual(certify_within(machine, safe)[0][0], "inside")
            self.assertEqual(certify_within(machine, good)[0][0], "inside")
            self.assertEqual(certify_step(safe, good)[0][0], "step")
            self.assertEqual(certify_pair(machine, other)[0][0], "parted")
            self.assertEqual(certify(safe, ("guard",))[0][0], "holds")
            self.assertEqual(certify(good, ("hope",))[0][0], "holds")
            for one in disguised(machine, numbers):
                self.assertEqual(certify_pair(machine, one)[0][0], "same")
                for kind in KINDS:
                    self.assertEqual(certify(one, (kind,))[0][0], certify(machine, (kind,))[0][0])
            for lasso in lassos_of(machine.letters, numbers, 4):
                papers = certify(machine, ("in", lasso)), certify(other, ("in", lasso))
                self.assertEqual({paper[0][0] for paper in papers}, {"holds", "fails"})

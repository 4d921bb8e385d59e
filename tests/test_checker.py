from itertools import product

from guardhopes import checker
from guardhopes.checker import accepts
from guardhopes.likeness import parting
from guardhopes.machines import Machine
from guardhopes.parts import guard, hope, opposite, recoloured
from tests.cases import Case
from tests.demands import (
    KINDS, alike_in, demands_elsewhere, goes_round_evenly, holds_in, no_demands_at_all, some_demands, verdict_in,
    within_in)
from tests.loops import (
    behind, disguised, jammed_pairs, ladder, lassos_of, mixed_machines, one_state, pairs_of, word_of, words_up_to)
from tests.values import Raises, SaysEqual, numbers_from, odd_values, some_values

RARE = Machine.read("machine ab\nstate 1 0 1\nstate 2 0 2\nstate 1 2 2")
SOME = Machine("ab", ((1, (1, 0)), (0, (1, 1))))
CALM = Machine("ab", ((0, (0, 1)), (1, (1, 1))))
EVERY, NOTHING = one_state("ab", 0), one_state("ab", 1)
TEXT, SOME_TEXT, CALM_TEXT = str(RARE), str(SOME), str(CALM)
OTHER_TEXT = "machine abc\nstate 0 0 0 0"
NO_TEXTS = [
    "", "machine", "machine ab", TEXT + "\n", " " + TEXT, TEXT.upper(), TEXT.replace("state", "State"),
    TEXT.replace("0", "7"), RARE, SaysEqual(), Raises(), None, 0, True, (TEXT,), [TEXT], TEXT.encode(), ("ab", ())]
EMPTY_WORDS = ("holds", "fails", "same", "inside", "step")
NO_EMPTY = [[], "", None, 0, False, (None,), ((),), ("",), ("", ""), ("", "a"), {}, set(), b"", Raises(), SaysEqual()]


def papers():
    """A paper of each kind that is right, of a claim with all that it tells."""
    return [
        (("holds", TEXT, ("again",)), ()), (("holds", TEXT, ("like", str(recoloured(RARE)))), ()),
        (("holds", TEXT, ("bad", "bb")), ()), (("holds", TEXT, ("in", ("", "ab"))), ()),
        (("fails", TEXT, ("guard",)), ()), (("fails", TEXT, ("depth", 1)), ()),
        (("same", TEXT, TEXT), ()), (("inside", TEXT, str(guard(RARE))), ()), (("step", TEXT, SOME_TEXT), ()),
        (("parted", TEXT, CALM_TEXT), ("", "a")), (("breaks", SOME_TEXT, TEXT), ("b", "a")),
        (("open", TEXT, "ab"), (("ab", "ab"), ("abb", "a"))), (("notstays", TEXT), ("", "a", "ba")),
        (("notagain", str(opposite(RARE))), ("", "a", "ba")), (("jams", CALM_TEXT, TEXT), "")]


def greatest_round(machine, state, word):
    """The greatest colour behind the letters of a word, if it leads from the state back; None if it does not."""
    if word == "" or behind(machine, word, state) != state:
        return None
    return max(machine.states[behind(machine, word[:k + 1], state)][0] for k in range(len(word)))


def turns_in(machine, triple, inner):
    """Whether a triple of words shows a round of this evenness within one of the other, told from the document."""
    start, turn, other = triple
    state = behind(machine, start)
    low, high = greatest_round(machine, state, turn), greatest_round(machine, state, other)
    return None not in (low, high) and low < high and low % 2 == inner and high % 2 != inner


class CheckerCase(Case):
    def assert_accepts(self, claim, certificate, truth=True):
        self.assertIs(accepts(claim, certificate), truth, (claim, certificate) if truth else None)

    def assert_refuses(self, claim, certificate):
        self.assert_accepts(claim, certificate, False)


class DemandClaimsTest(CheckerCase):
    def test_as_all_loops_tell(self):
        numbers = numbers_from(171)
        met = {}
        for machine in mixed_machines(120, 172):
            for demand in some_demands(machine, numbers):
                truth = holds_in(machine, demand)
                self.assert_accepts(("holds", str(machine), demand), (), truth)
                self.assert_accepts(("fails", str(machine), demand), (), not truth)
                met[demand[0], truth] = True
        self.assertEqual(len(met), 26)

    def test_certificates_that_are_not_empty(self):
        for claim in (("holds", TEXT, ("again",)), ("fails", TEXT, ("guard",)), ("fails", TEXT, ("stays",))):
            self.assert_accepts(claim, ())
            for value in [*NO_EMPTY, *odd_values()]:
                self.assert_refuses(claim, value)

    def test_what_is_no_demand_neither_holds_nor_fails(self):
        for word, demand in product(("holds", "fails"), [*no_demands_at_all(), *demands_elsewhere(), *some_values()]):
            self.assert_refuses((word, TEXT, demand), ())

    def test_200_and_201_letters(self):
        for word, form in product(("holds", "fails"), ("bad", "good", "in", "out")):
            for many in (200, 201):
                letters = "a" * many
                asked = letters if form in ("bad", "good") else (letters, letters)
                truth = many == 200 and holds_in(RARE, (form, asked)) is (word == "holds")
                self.assert_accepts((word, TEXT, (form, asked)), (), truth)
            for lasso in (("a" * 201, "b"), ("b", "a" * 201)):
                self.assert_refuses((word, TEXT, ("in", lasso)), ())


class PairClaimsTest(CheckerCase):
    def test_as_all_loops_of_both_tell(self):
        met = {}
        for one, other in [*pairs_of(120, 173), *((m, guard(m)) for m in mixed_machines(30, 174))]:
            texts = str(one), str(other)
            for word, truth in (
                ("same", alike_in(one, other)), ("inside", within_in(one, other)),
                ("step", not self.goes_to_a_jam(one, other)),
            ):
                self.assert_accepts((word, *texts), (), truth)
                met[word, truth] = True
        self.assertEqual(len(met), 6)

    def goes_to_a_jam(self, one, other):
        jammed = jammed_pairs(one, other)
        return any(
            behind(one, word) * len(other) + behind(other, word) in jammed
            for word in self.words_to_all_pairs(one, other))

    def words_to_all_pairs(self, one, other):
        words = {(0, 0): ""}
        waiting = [""]
        while waiting:
            word = waiting.pop()
            for letter in one.letters:
                pair = behind(one, word + letter), behind(other, word + letter)
                if pair not in words:
                    words[pair] = word + letter
                    waiting.append(word + letter)
        return list(words.values())

    def test_lassos_that_part_or_break(self):
        numbers = numbers_from(175)
        met = {}
        for one, other in pairs_of(60, 176):
            texts = str(one), str(other)
            for lasso in lassos_of(one.letters, numbers, 10):
                truths = goes_round_evenly(one, lasso), goes_round_evenly(other, lasso)
                self.assert_accepts(("parted", *texts), lasso, truths[0] != truths[1])
                self.assert_accepts(("breaks", *texts), lasso, truths == (True, False))
                met[truths] = True
        self.assertEqual(len(met), 4)

    def test_a_machine_is_not_parted_from_itself(self):
        numbers = numbers_from(177)
        for machine in mixed_machines(30, 178):
            for other in disguised(machine, numbers):
                for lasso in lassos_of(machine.letters, numbers, 6):
                    self.assert_refuses(("parted", str(machine), str(other)), lasso)
                    self.assert_refuses(("breaks", str(machine), str(other)), lasso)
                self.assert_accepts(("same", str(machine), str(other)), ())
                self.assert_accepts(("inside", str(machine), str(other)), ())
                self.assert_accepts(("step", str(machine), str(other)), ())

    def test_words_that_are_jams(self):
        met = {}
        for one, other in pairs_of(90, 179):
            if len(one.letters) < 3:
                jammed = jammed_pairs(one, other)
                for word in words_up_to(one.letters, 3):
                    truth = behind(one, word) * len(other) + behind(other, word) in jammed
                    self.assert_accepts(("jams", str(one), str(other)), word, truth)
                    met[truth] = met.get(truth, 0) + 1
        self.assertGreater(min(met.values()), 50)

    def test_jams_of_beginnings_that_are_bad(self):
        # Behind b no run lies in both, but b is bad for the first wish.
        self.assert_refuses(("jams", CALM_TEXT, CALM_TEXT), "b")
        self.assert_refuses(("jams", str(NOTHING), str(EVERY)), "")
        self.assert_accepts(("step", str(NOTHING), str(NOTHING)), ())
        self.assert_accepts(("jams", str(EVERY), CALM_TEXT), "b")
        # Any jam will do, not only the shortest one.
        for word in ("bb", "ab", "aaab", "abba", "b" * 1000):
            self.assert_accepts(("jams", str(EVERY), CALM_TEXT), word)
        self.assert_refuses(("jams", str(EVERY), CALM_TEXT), "aaa")
        self.assert_refuses(("jams", str(EVERY), CALM_TEXT), "")

    def test_certificates_of_any_length(self):
        for many in (199, 200, 201, 1500):
            self.assert_accepts(("parted", TEXT, CALM_TEXT), ("a" * many, "a" * many))
            self.assert_accepts(("parted", TEXT, CALM_TEXT), ("ab" * many, "ab" * many))
            self.assert_refuses(("parted", TEXT, CALM_TEXT), ("b" * many, "b" * many))
            self.assert_accepts(("breaks", SOME_TEXT, CALM_TEXT), ("b" * many, "b" * many + "a"))
            self.assert_accepts(("breaks", CALM_TEXT, TEXT), ("", "a" * many))
            self.assert_accepts(("jams", CALM_TEXT, TEXT), "a" * many)
            self.assert_refuses(("jams", CALM_TEXT, TEXT), "a" * many + "b")

    def test_other_letters(self):
        for word in ("same", "inside", "step", "parted", "breaks", "jams"):
            for one, other in ((OTHER_TEXT, str(EVERY)), (str(EVERY), OTHER_TEXT)):
                for certificate in ((), "", "a", ("", "a"), ("", "c")):
                    self.assert_refuses((word, one, other), certificate)

    def test_certificates_of_the_wrong_form(self):
        for word in ("same", "inside", "step"):
            self.assert_accepts((word, TEXT, TEXT), ())
            for value in [*NO_EMPTY, *odd_values()]:
                self.assert_refuses((word, TEXT, TEXT), value)
        lassos = [
            (), ("",), ("", ""), ("a", ""), ("", "a", "a"), ["", "a"], "a", "aa", ("", "c"), ("c", "a"), ("", b"a"),
            ("", ("a",)), (None, "a"), ("", None), ("", "A"), ("", "a "), ("", "a\n"), (0, "a"), (("", "a"),),
            ("", SaysEqual()), (Raises(), "a"), *odd_values()]
        for value in lassos:
            self.assert_refuses(("parted", TEXT, CALM_TEXT), value)
            self.assert_refuses(("breaks", CALM_TEXT, TEXT), value)
        self.assert_accepts(("breaks", CALM_TEXT, TEXT), ("", "a"))
        for value in [(), ("",), ("", "a"), "c", "ac", "A", " ", "a\n", 0, *odd_values()]:
            self.assert_refuses(("jams", CALM_TEXT, TEXT), value)


class OpenClaimsTest(CheckerCase):
    def test_as_the_lassos_tell(self):
        numbers = numbers_from(180)
        met = {}
        for machine in mixed_machines(90, 181):
            for word in words_up_to(machine.letters, 1):
                pairs = [
                    tuple((word * (next(numbers) % 4 > 0) + start, turn) for start, turn in lassos)
                    for lassos in zip(lassos_of(machine.letters, numbers, 8), lassos_of(machine.letters, numbers, 8))]
                for pair in pairs:
                    truth = all(start.startswith(word) for start, _ in pair)
                    truth = truth and goes_round_evenly(machine, pair[0]) and not goes_round_evenly(machine, pair[1])
                    self.assert_accepts(("open", str(machine), word), pair, truth)
                    if truth:
                        self.assertEqual(verdict_in(machine, word), "open")
                    met[truth] = met.get(truth, 0) + 1
        self.assertGreater(min(met.values()), 25)

    def test_the_first_words_begin_with_the_word(self):
        claim = ("open", TEXT, "ab")
        self.assert_accepts(claim, (("ab", "ab"), ("ab", "a")))
        self.assert_accepts(claim, (("aba", "ba"), ("abb", "a")))
        # The run goes on as it should, but the first word alone does not tell that.
        self.assert_refuses(claim, (("", "ab"), ("ab", "a")))
        self.assert_refuses(claim, (("a", "ba"), ("ab", "a")))
        self.assert_refuses(claim, (("ab", "ab"), ("a", "b")))
        self.assert_refuses(claim, (("ab", "ab"), ("ba", "a")))
        self.assert_refuses(claim, (("ab", "a"), ("ab", "ab")))
        self.assert_refuses(claim, (("ab", "ab"), ("ab", "ab")))
        self.assert_refuses(claim, (("ab", "a"), ("ab", "a")))
        self.assert_accepts(("open", TEXT, ""), (("", "ab"), ("", "a")))

    def test_200_and_201_letters(self):
        for many, truth in ((199, True), (200, True), (201, False), (400, False)):
            word = "a" * many
            self.assert_accepts(("open", TEXT, word), ((word, "ab"), (word, "a")), truth)
        word = "a" * 200
        self.assert_accepts(("open", TEXT, word), ((word + "ab" * 300, "ab" * 300), (word * 5, word * 5)))

    def test_wrong_forms(self):
        right = (("ab", "ab"), ("abb", "a"))
        self.assert_accepts(("open", TEXT, "ab"), right)
        for word in [*odd_values(), "c", "abc", "A", "ab ", 0, (), ("ab",), "a" * 201]:
            self.assert_refuses(("open", TEXT, word), right)
        for value in [
            (), right[:1], (*right, right[0]), list(right), (list(right[0]), right[1]), (right[0], list(right[1])),
            (right,), "abab", ("ab", "ab"), (right[0], None), (None, right[1]), (right[0], ("abb", "")),
            (("ab", ""), right[1]), (right[0], ("abb", "c")), (("abc", "ab"), right[1]), (right[0], ("abb", b"a")),
            ((Raises(), "ab"), right[1]), (right[0], SaysEqual()), (("ab", "ab", "ab"), right[1]), *odd_values(),
        ]:
            self.assert_refuses(("open", TEXT, "ab"), value)


class TurningClaimsTest(CheckerCase):
    def test_as_the_document_tells(self):
        met = {}
        machines = [ladder("abc", colours) for colours in ((1, 2, 3, 4, 5, 6), (0, 1, 2, 3, 4, 5), (3, 2, 5, 4, 6, 1))]
        for machine in [*machines, *mixed_machines(150, 183)]:
            letters = machine.letters
            if len(letters) < 3 or machine in machines:
                for triple in product(words_up_to(letters, 1), words_up_to(letters, 2), words_up_to(letters, 2)):
                    for word, inner in (("notagain", 0), ("notstays", 1)):
                        truth = turns_in(machine, triple, inner)
                        self.assert_accepts((word, str(machine)), triple, truth)
                        met[word, truth] = met.get((word, truth), 0) + 1
                        if truth:
                            self.assertFalse(holds_in(machine, (("again",), ("stays",))[inner]))
        self.assertGreater(min(met.values()), 20, met)

    def test_each_condition_counts(self):
        # The letters go down, up and nowhere: from each state on, words lead back over the colours beside it.
        up_down = ladder("abc", (1, 2, 3, 4, 5, 6))
        text = str(up_down)
        self.assert_accepts(("notagain", text), ("a", "c", "ab"))
        self.assert_accepts(("notagain", text), ("a", "cc", "cab"))
        self.assert_accepts(("notagain", text), ("a", "ba", "ab"))
        self.assert_accepts(("notstays", text), ("", "c", "ab"))
        self.assert_accepts(("notstays", text), ("aa", "c", "ab"))
        for triple in (
            ("a", "c", "c"), ("a", "ab", "c"), ("a", "ba", "ba"), ("a", "", "ab"), ("a", "c", ""), ("a", "a", "ab"),
            ("a", "c", "a"), ("a", "c", "aa"), ("", "c", "ab"), ("aa", "c", "ab"), ("a", "c", "aabb"),
        ):
            self.assert_refuses(("notagain", text), triple)
        for triple in (("a", "c", "ab"), ("a", "ba", "ab"), ("", "c", "b"), ("", "a", "ab"), ("", "ab", "c")):
            self.assertEqual(accepts(("notstays", text), triple), turns_in(up_down, triple, 1))
        # An odd colour that is less than the even one shows nothing.
        low = Machine("ab", ((2, (0, 1)), (1, (1, 0))))
        self.assert_refuses(("notagain", str(low)), ("", "a", "bb"))
        self.assert_refuses(("notagain", str(low)), ("b", "a", "bb"))
        self.assert_accepts(("notstays", str(low)), ("b", "a", "bb"))

    def test_the_colour_of_the_first_state_counts_only_when_it_comes(self):
        # Behind START the state has the colour 5; the rounds come to it with their last letters.
        machine = Machine("ab", ((0, (1, 0)), (5, (1, 0))))
        self.assert_accepts(("notagain", str(machine)), ("", "b", "ab"))
        self.assert_refuses(("notagain", str(machine)), ("a", "a", "ba"))

    def test_words_of_any_length(self):
        for many in (200, 201, 1500):
            self.assert_accepts(("notstays", TEXT), ("a" * many, "a" * many, "a" * many + "ba"))
            self.assert_accepts(("notstays", TEXT), ("ba" * many, "a", "ba" * many))
            self.assert_refuses(("notstays", TEXT), ("b" * many, "a", "ba"))

    def test_wrong_forms(self):
        right = ("", "a", "ba")
        self.assert_accepts(("notstays", TEXT), right)
        for value in [
            (), right[:2], (*right, "a"), list(right), "aba", ("", "", "ba"), ("", "a", ""), ("c", "a", "ba"),
            ("", "c", "ba"), ("", "a", "bc"), (None, "a", "ba"), ("", None, "ba"), ("", "a", None), ("", "a", b"ba"),
            ("", ("a",), "ba"), (Raises(), "a", "ba"), ("", SaysEqual(), "ba"), ("", "a", Raises()), (right,),
            ("", "A", "ba"), ("", "a", "b a"), *odd_values(),
        ]:
            self.assert_refuses(("notstays", TEXT), value)
            self.assert_refuses(("notagain", TEXT), value)
        for claim in (("notstays", TEXT, TEXT), ("notstays",), ("notstays", TEXT, ()), ["notstays", TEXT]):
            self.assert_refuses(claim, right)


class AllClaimsTest(CheckerCase):
    def test_right_papers(self):
        for claim, certificate in papers():
            self.assert_accepts(claim, certificate)
            self.assertIs(accepts(certificate=certificate, claim=claim), True)

    def test_each_certificate_for_its_own_claim_only(self):
        for claim, certificate in papers():
            for other in papers():
                if (other[1] == ()) != (certificate == ()) or len(other[1]) != len(certificate):
                    self.assert_refuses(claim, other[1])

    def test_one_element_more_or_less_and_lists(self):
        for claim, certificate in papers():
            for wrong in (
                claim[:-1], claim[1:], (*claim, ()), (*claim, TEXT), (*claim, None), (claim,), list(claim), claim[:1],
                (None, *claim[1:]), ((claim[0],), *claim[1:]), (*claim[:1], list(claim[1:])), "".join(map(str, claim)),
            ):
                self.assert_refuses(wrong, certificate)
            for value in [list(certificate), (certificate,), None, True, False, 0, {}, Raises(), SaysEqual()]:
                self.assert_refuses(claim, value)
            if isinstance(certificate, tuple):
                for value in [(*certificate, ""), (*certificate, ()), *[certificate[:-1]] * bool(certificate)]:
                    self.assert_refuses(claim, value)

    def test_wrong_words(self):
        words = [
            "", "Holds", "hold", "holds ", "sames", "equal", "within", "alike", "bad", "good", "out", "in", "like",
            "guard", "again", "stays", "not again", "jam", "breaking", *odd_values(), 0, ("holds",)]
        for claim, certificate in papers():
            for word in words:
                self.assert_refuses((word, *claim[1:]), certificate)

    def test_words_of_other_claims(self):
        words = ("holds", "fails", "same", "inside", "step", "parted", "breaks", "open", "notagain", "notstays", "jams")
        for word, certificate in product(words, ((), "", ("", "a"), ("", "a", "ba"), (("", "ab"), ("", "a")))):
            if word not in ("notagain", "notstays"):
                self.assert_refuses((word, TEXT), certificate)
            self.assert_refuses((word,), certificate)
        for word in ("same", "inside", "step", "parted", "breaks", "jams"):
            for asked in (("again",), "ab", ("", "a"), ()):
                for certificate in ((), "", ("", "a"), (("", "ab"), ("", "a"))):
                    self.assert_refuses((word, TEXT, asked), certificate)
        for word in ("holds", "fails", "open"):
            self.assert_refuses((word, TEXT, TEXT), ())

    def test_what_is_no_text(self):
        for claim, certificate in papers():
            for text in [*NO_TEXTS, *odd_values()]:
                self.assert_refuses((claim[0], text, *claim[2:]), certificate)
                if claim[0] in ("same", "inside", "step", "parted", "breaks", "jams"):
                    self.assert_refuses((*claim[:2], text), certificate)

    def test_whatever_both_are(self):
        no_claims = [*some_values(), *(certificate for _, certificate in papers())]
        values = [*no_claims, *(claim for claim, _ in papers())]
        for claim, certificate in product(no_claims, values):
            self.assert_refuses(claim, certificate)

    def test_claims_beside_certificates_of_any_kind(self):
        for claim, certificate in papers():
            for value in [*odd_values(), 0, 1, -1, (0,), ("a",), (0, (0,)), ((0, (0,)),), (0, "a", 0), claim]:
                self.assert_refuses(claim, value)

    def test_the_same_each_time_and_nothing_changes(self):
        for claim, certificate in papers():
            before = repr((claim, certificate))
            self.assertEqual([accepts(claim, certificate) for _ in range(3)], [True] * 3)
            self.assertEqual(repr((claim, certificate)), before)

    def test_defined_in_its_file(self):
        self.assertEqual(accepts.__module__, checker.__name__)


class WishesTest(CheckerCase):
    def test_of_a_wish_its_guard_its_hope_and_its_opposite(self):
        for machine in mixed_machines(120, 184):
            text = str(machine)
            safe, good, other = (str(call(machine)) for call in (guard, hope, opposite))
            for claim in (
                ("inside", text, safe), ("inside", text, good), ("step", text, safe), ("step", safe, good),
                ("holds", safe, ("guard",)), ("holds", good, ("hope",)), ("fails", text, ("like", other)),
                ("same", str(opposite(opposite(machine))), text), ("same", str(recoloured(machine)), text),
            ):
                self.assert_accepts(claim, ())
            self.assert_refuses(("same", text, other), ())
            self.assert_accepts(("parted", text, other), parting(machine, opposite(machine)))
            for kind in KINDS:
                holds = accepts(("holds", text, (kind,)), ())
                self.assertIs(accepts(("fails", text, (kind,)), ()), not holds)

from doctest import DocTestParser, DocTestRunner
from pathlib import Path
from unittest import TestCase

from guardhopes.certificates import certify, certify_pair, certify_step
from guardhopes.checker import accepts
from guardhopes.console import Console
from guardhopes.errors import Broken, InvalidText, InvalidWord
from guardhopes.kinds import comes_again, depth, does_stay, is_duty, is_guard, is_hope, is_promise
from guardhopes.likeness import alike, breaking, parting, within
from guardhopes.live import Watch
from guardhopes.living import is_watchable, live, shortest, sure, verdict
from guardhopes.machines import Machine
from guardhopes.mends import holds, mends
from guardhopes.parts import guard, hope, opposite, recoloured
from guardhopes.runs import lies_in, state_after
from guardhopes.seeing import fitting
from guardhopes.shelves import Shelf
from guardhopes.steps import in_step, jam


class ExamplesTest(TestCase):
    """The examples of the document, as they stand there."""

    def setUp(self):
        self.rare = Machine.read("machine ab\nstate 1 0 1\nstate 2 0 2\nstate 1 2 2")
        self.some = Machine("ab", ((1, (1, 0)), (0, (1, 1))))
        self.calm = Machine("ab", ((0, (0, 1)), (1, (1, 1))))

    def test_machines(self):
        rare = self.rare
        self.assertEqual(
            [rare.letters, rare.states, len(rare), rare == Machine("ab", rare.states),
             str(rare.changed((1, "b", 1))).split("\n")[2]],
            ["ab", ((1, (0, 1)), (2, (0, 2)), (1, (2, 2))), 3, True, "state 2 0 1"])

    def test_runs(self):
        rare = self.rare
        self.assertEqual(
            [state_after(rare, ""), state_after(rare, "ab"), state_after(rare, "abb"),
             lies_in(rare, ("", "ab")), lies_in(rare, ("ab", "a")), lies_in(rare, ("bb", "ab"))],
            [0, 1, 2, True, False, False])

    def test_living(self):
        rare, some = self.rare, self.some
        self.assertEqual(
            [live(rare), sure(rare), verdict(rare, "ab"), verdict(rare, "abba"), shortest(rare, "bad"),
             shortest(rare, "good")],
            [(0, 1), (), "open", "bad", "bb", None])
        self.assertEqual(
            [live(some), sure(some), verdict(some, "bba"), shortest(some, "good"), is_watchable(some),
             is_watchable(rare)],
            [(0, 1), (1,), "good", "a", True, True])

    def test_parts(self):
        rare, some = self.rare, self.some
        self.assertEqual(
            [guard(rare).states, hope(rare).states, guard(some).states, guard(guard(rare)) == guard(rare),
             guard(hope(rare)).states],
            [((0, (0, 1)), (0, (0, 2)), (1, (2, 2))), ((1, (0, 1)), (2, (0, 2)), (0, (2, 2))), ((0, (0, 0)),), True,
             ((0, (0, 0)),)])
        self.assertEqual(
            [lies_in(opposite(rare), ("ab", "a")), lies_in(opposite(rare), ("", "ab"))], [True, False])
        self.assertIs(alike(recoloured(rare), rare), True)

    def test_likeness(self):
        rare, some = self.rare, self.some
        self.assertEqual(
            [alike(rare, guard(rare)), within(rare, guard(rare)), within(guard(rare), rare), within(rare, hope(rare)),
             parting(some, some), breaking(rare, some)],
            [False, True, False, True, None, None])

    def test_kinds(self):
        rare, some = self.rare, self.some
        self.assertEqual(
            [is_guard(rare), is_hope(rare), is_promise(rare), is_duty(rare), comes_again(rare), does_stay(rare),
             depth(rare)],
            [False, False, False, False, True, False, 2])
        self.assertEqual(
            [is_guard(some), is_hope(some), is_promise(some), is_duty(some), comes_again(some), does_stay(some),
             depth(some)],
            [False, True, True, True, True, True, 1])
        self.assertEqual(
            [is_guard(guard(rare)), is_hope(hope(rare)), depth(guard(rare)), depth(hope(rare)),
             depth(opposite(rare))],
            [True, True, 1, 2, 1])

    def test_steps(self):
        rare, some, calm = self.rare, self.some, self.calm
        self.assertEqual(
            [in_step(guard(rare), hope(rare)), jam(guard(rare), some), jam(calm, rare), jam(guard(rare), calm),
             in_step(calm, some)],
            [True, None, "", "b", True])

    def test_seeing(self):
        machines = (self.rare, self.some, self.calm)
        self.assertEqual(fitting(machines, ((("", "a"), False), (("a", "ab"), True))), (0,))

    def test_mends(self):
        rare = self.rare
        self.assertEqual(
            [holds(rare, ("again",)), holds(rare, ("depth", 1)), holds(rare, ("bad", "bb")),
             holds(rare, ("like", str(guard(rare))))],
            [True, False, True, False])
        changes = ((0, "colour", 2), (0, "colour", 0), (1, "colour", 1), (2, "colour", 0))
        self.assertEqual(mends(rare, (("guard",),), changes), ((0,), (1,), (2,)))

    def test_live(self):
        watch = Watch(self.rare)
        watch.hear("aba")
        self.assertEqual(
            [watch.heard, watch.state, watch.verdict, len(watch), watch.nearest("bad"), watch.nearest("good")],
            ["aba", 0, "open", 3, "bb", None])
        with self.assertRaises(InvalidWord) as raised:
            watch.hear("abc")
        self.assertEqual(raised.exception.given, "abc")

    def test_shelves(self):
        rare = self.rare
        shelf = Shelf()
        shelf["whole"] = rare
        shelf["part"] = guard(rare)
        shelf.ask(("within", "whole", "part"))
        shelf.ask(("part", ("guard",)))
        self.assertEqual(
            [shelf.names, len(shelf.demands), shelf.changes, "other" in shelf], [("part", "whole"), 2, 4, False])
        with self.assertRaises(Broken) as raised:
            shelf.ask(("alike", "whole", "part"))
        self.assertEqual(raised.exception.index, 2)

    def test_certificates(self):
        rare, calm = self.rare, self.calm
        self.assertEqual(
            [certify(rare, ("stays",))[0][0], certify(rare, ("hope",))[0][0], certify_pair(rare, rare)[0][0],
             certify_step(calm, rare)],
            ["notstays", "fails", "same",
             (("jams", "machine ab\nstate 0 0 1\nstate 1 1 1", "machine ab\nstate 1 0 1\nstate 2 0 2\nstate 1 2 2"),
              "")])
        self.assertEqual(
            [accepts(("notstays", str(rare)), ("", "a", "ba")), accepts(("notagain", str(rare)), ("", "a", "ba")),
             accepts(("parted", str(rare), str(calm)), ("", "a"))],
            [True, False, True])
        self.assertIs(accepts(("open", str(rare), "ab"), (("ab", "ab"), ("abb", "a"))), True)

    def test_console(self):
        console = Console(self.rare)
        self.assertEqual(
            [console.say("hear ab"), console.say("state"), console.say("nearest bad"), console.say("hear x"),
             console.say("kinds"), console.say("undo"), console.say("heard")],
            ["ok", "1", "b", "InvalidWord", "again watchable", "ok", "-"])
        with self.assertRaises(InvalidText) as raised:
            console.say("hear")
        self.assertEqual(raised.exception.given, "hear")

    def test_a_wish_of_the_document_told_by_hand(self):
        # In the end only c comes.
        ends = Machine("abc", ((1, (0, 0, 1)), (0, (0, 0, 1))))
        for lasso, truth in (
            (("", "c"), True), (("abba", "c"), True), (("", "ccca"), False), (("c" * 200, "b"), False),
        ):
            self.assertIs(lies_in(ends, lasso), truth)

    def test_the_examples_of_the_readme(self):
        text = (Path(__file__).resolve().parent.parent / "README.md").read_text()
        rows = "\n".join("" if row.startswith("```") else row for row in text.split("\n"))
        runner = DocTestRunner(verbose=False)
        runner.run(DocTestParser().get_doctest(rows, {}, "README.md", "README.md", 0), out=lambda row: None)
        self.assertGreater(runner.tries, 30)
        self.assertEqual(runner.failures, 0)

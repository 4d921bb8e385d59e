from unittest import TestCase

from guardhopes.machines import Machine
from guardhopes.runs import lies_in, state_after


class ExamplesTest(TestCase):
    """The examples of the document, as they stand there."""

    def setUp(self):
        self.rare = Machine.read("machine ab\nstate 1 0 1\nstate 2 0 2\nstate 1 2 2")

    def test_machines(self):
        rare = self.rare
        self.assertEqual(
            [rare.letters, rare.states, len(rare), rare == Machine("ab", rare.states),
             str(rare.changed((1, "b", 1))).split("\n")[2]],
            ["ab", ((1, (0, 1)), (2, (0, 2)), (1, (2, 2))), 3, True, "state 2 0 1"])

    def test_runs(self):
        rare = self.rare
        self.assertEqual(
            [state_after(rare, ""), state_after(rare, "ab"), state_after(rare, "abb"),
             lies_in(rare, ("", "ab")), lies_in(rare, ("ab", "a")), lies_in(rare, ("bb", "ab"))],
            [0, 1, 2, True, False, False])

    def test_a_wish_of_the_document_told_by_hand(self):
        # In the end only c comes.
        ends = Machine("abc", ((1, (0, 0, 1)), (0, (0, 0, 1))))
        for lasso, truth in (
            (("", "c"), True), (("abba", "c"), True), (("", "ccca"), False), (("c" * 200, "b"), False),
        ):
            self.assertIs(lies_in(ends, lasso), truth)

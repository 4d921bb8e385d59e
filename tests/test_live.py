from itertools import product

from guardhopes import live as live_file
from guardhopes.errors import InvalidVerdict, InvalidWord, NoAnswer, NotAMachine, NothingToUndo, TooLong
from guardhopes.live import Watch
from guardhopes.living import shortest, verdict
from guardhopes.machines import Machine
from guardhopes.parts import guard, hope, opposite, recoloured
from guardhopes.runs import lies_in, state_after
from tests.cases import Case
from tests.demands import verdict_in
from tests.loops import (
    behind, disguised, lassos_of, live_in, mixed_machines, no_machines, one_state, sure_in, word_of, words_up_to)
from tests.values import Raises, SaysEqual, numbers_from, odd_values, some_values

RARE = Machine.read("machine ab\nstate 1 0 1\nstate 2 0 2\nstate 1 2 2")
SOME = Machine("ab", ((1, (1, 0)), (0, (1, 1))))
# Four letters lead to the bad end, if they are the right ones; any other one to the good end.
MAZE = Machine("abc", (
    (1, (1, 4, 4)), (2, (4, 4, 2)), (1, (4, 3, 4)), (0, (5, 4, 5)), (6, (4, 4, 4)), (5, (5, 5, 5))))


class Stop(Exception):
    pass


def heard_by(machine, *words):
    watch = Watch(machine)
    for word in words:
        watch.hear(word)
    return watch


def told(watch):
    """All that a watch tells."""
    return (
        watch.machine, watch.heard, watch.state, watch.verdict, len(watch), watch.nearest("bad"),
        watch.nearest("good"))


def undone(watch):
    """How many times something can be taken back, and what is heard then; takes all back in a trial."""
    rows = []

    def take_all(held):
        for _ in range(1000):
            held.undo()
            rows.append(held.heard)

    try:
        watch.tried(take_all)
    except NothingToUndo:
        pass
    return rows


def nearest_in(machine, state, goals):
    """The first word that leads from the state to a goal, the words gone through one by one."""
    words = [""]
    met = set()
    while words:
        longer = []
        for word in words:
            at = behind(machine, word, state)
            if at in goals:
                return word
            if at not in met:
                met.add(at)
                longer += [word + letter for letter in machine.letters]
        words = longer
    return None


class WatchCase(Case):
    def assert_told(self, watch, machine, word):
        """The watch of the machine tells what is told of the word, heard from the beginning."""
        state = behind(machine, word)
        dead = [k for k in range(len(machine)) if k not in live_in(machine)]
        self.assertEqual(told(watch), (
            machine, word, state, verdict_in(machine, word), len(word), nearest_in(machine, state, dead),
            nearest_in(machine, state, sure_in(machine))))
        self.assertIs(type(watch.heard), str)
        self.assertIs(type(watch.state), int)

    def assert_unchanged(self, watch, kind, call):
        """The call raises an error of this kind, and all that the watch tells and can take back is the same."""
        before = told(watch), undone(watch)
        error = self.raised_by(kind, call)
        self.assertEqual((told(watch), undone(watch)), before)
        return error


class HearingTest(WatchCase):
    def test_a_new_watch(self):
        for machine in [RARE, SOME, MAZE, *mixed_machines(60, 141)]:
            watch = Watch(machine)
            self.assert_told(watch, machine, "")
            self.assertIs(watch.machine, machine)
            self.assertEqual(undone(watch), [])

    def test_letters_more(self):
        numbers = numbers_from(142)
        verdicts = {}
        for machine in mixed_machines(180, 143):
            watch = Watch(machine)
            heard = ""
            for length in (0, 1, 1, 2, 5, 0, 30):
                word = word_of(machine.letters, numbers, length)
                self.assertIsNone(watch.hear(word))
                heard += word
                self.assert_told(watch, machine, heard)
            verdicts[watch.verdict] = True
        self.assertEqual(len(verdicts), 3)

    def test_greatest_machines(self):
        numbers = numbers_from(144)
        for _ in range(40):
            machine = Machine("abc", tuple(
                (next(numbers) % 7, tuple(next(numbers) % 6 for _ in range(3))) for _ in range(6)))
            word = word_of("abc", numbers, 200)
            watch = heard_by(machine, word[:90], word[90:])
            self.assert_told(watch, machine, word)

    def test_as_the_calls_for_machines_tell(self):
        for machine in [RARE, SOME, MAZE, *mixed_machines(30, 145)]:
            for word in words_up_to(machine.letters, 3):
                watch = heard_by(machine, word)
                self.assertEqual(watch.state, state_after(machine, word))
                self.assertEqual(watch.verdict, verdict(machine, word))
            watch = Watch(machine)
            for wanted in ("bad", "good"):
                self.assertEqual(watch.nearest(wanted), shortest(machine, wanted))

    def test_how_it_was_cut_tells_nothing(self):
        whole = told(heard_by(MAZE, "acbacb"))
        for low, high in product(range(7), repeat=2):
            if low <= high:
                watch = heard_by(MAZE, "acbacb"[:low], "acbacb"[low:high], "acbacb"[high:])
                self.assertEqual(told(watch), whole)

    def test_nearest(self):
        watch = Watch(MAZE)
        for letter, word in (("", "acba"), ("a", "cba"), ("c", "ba"), ("b", "a"), ("c", "")):
            watch.hear(letter)
            self.assertEqual(watch.nearest("bad"), word)
        self.assertIs(watch.nearest("good"), None)
        watch.undo()
        self.assertEqual(watch.nearest("good"), "b")
        watch.hear("b")
        self.assertEqual([watch.nearest("bad"), watch.nearest("good")], [None, ""])
        self.assertEqual([heard_by(SOME, "bb").nearest("good"), Watch(SOME).nearest("bad")], ["a", None])

    def test_200_letters_and_one_more(self):
        watch = heard_by(RARE, "a" * 200)
        self.assert_told(watch, RARE, "a" * 200)
        self.assertEqual(self.assert_unchanged(watch, TooLong, lambda: watch.hear("a")).most, 200)
        self.assertIsNone(watch.hear(""))
        self.assertEqual(undone(watch), ["a" * 200, ""])
        watch = Watch(RARE)
        for k in range(200):
            watch.hear("ab"[k % 2])
        self.assertEqual(self.assert_unchanged(watch, TooLong, lambda: watch.hear("b" * 200)).most, 200)
        self.assertEqual(len(watch), 200)
        watch.undo()
        watch.hear("a")
        self.assertEqual(watch.heard[-2:], "aa")
        watch = heard_by(RARE, "ab" * 75)
        self.assertEqual(self.assert_unchanged(watch, TooLong, lambda: watch.hear(word="a" * 51)).most, 200)
        self.assertEqual(self.assert_unchanged(watch, TooLong, lambda: watch.hear("a" * 200)).most, 200)
        self.assertIsNone(watch.hear("a" * 50))
        self.assertEqual(len(watch), 200)

    def test_taken_back(self):
        watch = heard_by(RARE, "a", "", "bab", "", "", "b")
        texts = []
        for _ in range(6):
            self.assertIsNone(watch.undo())
            texts.append(watch.heard)
            self.assert_told(watch, RARE, watch.heard)
        self.assertEqual(texts, ["abab", "abab", "abab", "a", "a", ""])
        self.assert_unchanged(watch, NothingToUndo, watch.undo)
        watch.hear("bb")
        self.assertEqual(undone(watch), [""])
        watch.undo()
        self.assert_unchanged(watch, NothingToUndo, watch.undo)

    def test_the_empty_word_is_taken_back(self):
        watch = heard_by(RARE, "")
        self.assertIsNone(watch.undo())
        self.assert_unchanged(watch, NothingToUndo, watch.undo)
        for _ in range(500):
            watch.hear("")
        for _ in range(500):
            watch.undo()
        self.assert_unchanged(watch, NothingToUndo, watch.undo)

    def test_many_hearings_and_undos(self):
        numbers = numbers_from(146)
        for machine in mixed_machines(60, 147):
            watch = Watch(machine)
            words = []
            for _ in range(60):
                if next(numbers) % 3 == 0 and words:
                    words.pop()
                    watch.undo()
                else:
                    word = word_of(machine.letters, numbers, next(numbers) % 4)
                    words.append(word)
                    watch.hear(word)
                self.assertEqual([watch.heard, watch.state], ["".join(words), behind(machine, "".join(words))])
            self.assertEqual(undone(watch), ["".join(words[:k]) for k in range(len(words))][::-1])


class ErrorsTest(WatchCase):
    def test_no_machine(self):
        for value in no_machines():
            self.assert_given(NotAMachine, value, lambda: Watch(value))
            self.assert_given(NotAMachine, value, lambda: Watch(machine=value))

    def test_no_word(self):
        watch = heard_by(RARE, "ab", "a")
        for value in [*odd_values(), "c", "abc", "A", " ", "a ", "ab\n", "a" * 201, 0, (), ("a",), "b" * 1000]:
            error = self.assert_unchanged(watch, InvalidWord, lambda: watch.hear(value))
            self.assertIs(error.given, value)
            error = self.assert_unchanged(watch, InvalidWord, lambda: watch.hear(word=value))
            self.assertIs(error.given, value)

    def test_no_word_comes_ahead_of_too_many_letters(self):
        watch = heard_by(RARE, "a" * 200)
        for value in ("c", "a" * 201, "abc" * 50, None, Raises()):
            self.assertIs(self.assert_unchanged(watch, InvalidWord, lambda: watch.hear(value)).given, value)

    def test_nothing_wanted(self):
        watch = heard_by(RARE, "ab")
        for value in [*some_values(), "open", "Bad", "bad ", "goo", "badgood", ("bad",)]:
            error = self.assert_unchanged(watch, InvalidVerdict, lambda: watch.nearest(value))
            self.assertIs(error.given, value)
            self.assert_given(InvalidVerdict, value, lambda: watch.nearest(wanted=value))


class ValueTest(WatchCase):
    def test_equal_to_itself_alone(self):
        one, other = heard_by(RARE, "ab"), heard_by(RARE, "ab")
        self.assertTrue(one == one and not one != one)
        for value in [other, Watch(RARE), RARE, one.trial(), *some_values()]:
            self.assertIs(one == value, False)
            self.assertIs(one != value, True)
        self.assertTrue(other != one and not other == one)
        one.hear("b")
        self.assertTrue(one == one and one != other)

    def test_true_also_without_letters(self):
        watch = Watch(RARE)
        self.assertEqual(len(watch), 0)
        self.assertIs(bool(watch), True)
        self.assertIs(bool(watch.trial()), True)
        self.assertIs(bool(heard_by(RARE, "b")), True)

    def test_properties_are_not_assigned(self):
        watch = heard_by(RARE, "ab")
        for name in ("machine", "heard", "state", "verdict"):
            with self.assertRaises(AttributeError):
                setattr(watch, name, getattr(watch, name))

    def test_two_watches_of_one_machine(self):
        one, other = Watch(RARE), Watch(RARE)
        one.hear("ab")
        self.assertEqual([one.heard, other.heard], ["ab", ""])
        other.hear("b")
        one.undo()
        self.assertEqual([one.heard, other.heard], ["", "b"])
        with self.assertRaises(Stop), one.trial():
            other.hear("a")
            one.hear("a")
            raise Stop
        self.assertEqual([one.heard, other.heard], ["", "ba"])

    def test_by_name(self):
        watch = Watch(machine=RARE)
        watch.hear(word="a")
        self.assertEqual(watch.nearest(wanted="bad"), "bb")
        self.assertEqual(watch.tried(action=lambda held: held.heard), "a")

    def test_methods_stand_in_the_class_itself(self):
        self.assertEqual(Watch.__module__, live_file.__name__)
        for name in (
            "hear", "undo", "nearest", "machine", "heard", "state", "verdict", "__len__", "trial", "tried"):
            self.assertIn(name, vars(Watch))


class TrialTest(WatchCase):
    def assert_same(self, watch, before):
        self.assertEqual((told(watch), undone(watch)), before)

    def test_rows_that_end_well_stay(self):
        watch = heard_by(RARE, "a")
        with watch.trial() as held:
            self.assertIs(held, watch)
            held.hear("b")
            watch.hear("")
            self.assertEqual(watch.heard, "ab")
        self.assert_told(watch, RARE, "ab")
        self.assertEqual(undone(watch), ["ab", "a", ""])

    def test_an_exception_takes_all_back_and_is_passed_on(self):
        for error in (Stop(), KeyError("a"), StopIteration(), KeyboardInterrupt(), GeneratorExit(), InvalidWord("a")):
            watch = heard_by(RARE, "a", "", "b")
            before = told(watch), undone(watch)
            with self.assertRaises(type(error)) as raised:
                with watch.trial() as held:
                    held.hear("a")
                    held.hear("")
                    self.assertEqual(watch.heard, "aba")
                    raise error
            self.assertIs(raised.exception, error)
            self.assert_same(watch, before)

    def test_errors_of_the_watch_itself(self):
        watch = heard_by(RARE, "ab")
        before = told(watch), undone(watch)
        for kind, call in (
            (InvalidWord, lambda held: held.hear("abc")), (TooLong, lambda held: held.hear("a" * 199)),
            (NothingToUndo, lambda held: [held.undo() for _ in range(9)]),
            (InvalidVerdict, lambda held: held.nearest("open")),
        ):
            with self.assertRaises(kind), watch.trial():
                watch.hear("a")
                call(watch)
            self.assert_same(watch, before)

            def action(held):
                held.hear("a")
                call(held)

            self.raised_by(kind, lambda: watch.tried(action))
            self.assert_same(watch, before)

    def test_errors_that_are_caught_within_end_nothing(self):
        watch = Watch(RARE)
        with watch.trial():
            watch.hear("a")
            with self.assertRaises(NoAnswer):
                watch.hear("b" * 200)
            watch.hear("b")
        self.assertEqual(undone(watch), ["a", ""])

    def test_tried(self):
        watch = heard_by(RARE, "a")
        for value in (None, 0, "a", Raises(), [1], False):
            self.assertIs(watch.tried(lambda held: value), value)
        self.assertIs(watch.tried(lambda held: held), watch)
        self.assertEqual(watch.tried(lambda held: (held.hear("b"), held.heard)), (None, "ab"))
        self.assertEqual(watch.heard, "ab")
        error = Stop()

        def action(held):
            held.hear("a")
            raise error

        for _ in range(2):
            self.assertIs(self.raised_by(Stop, lambda: watch.tried(action)), error)
            self.assertEqual(undone(watch), ["a", ""])

    def test_undo_behind_the_beginning(self):
        watch = heard_by(RARE, "a", "b", "", "a")
        before = told(watch), undone(watch)
        with self.assertRaises(Stop), watch.trial():
            for _ in range(3):
                watch.undo()
            self.assertEqual(watch.heard, "a")
            watch.hear("bb")
            raise Stop
        self.assert_same(watch, before)
        with watch.trial():
            for _ in range(3):
                watch.undo()
            watch.hear("bb")
        self.assert_told(watch, RARE, "abb")
        self.assertEqual(undone(watch), ["a", ""])

    def test_undo_to_the_very_beginning(self):
        watch = heard_by(RARE, "a", "b")
        before = told(watch), undone(watch)

        def action(held):
            while True:
                held.undo()

        self.raised_by(NothingToUndo, lambda: watch.tried(action))
        self.assert_same(watch, before)

    def test_trials_within_trials(self):
        for inner, outer in product((True, False), repeat=2):
            watch = heard_by(RARE, "a")
            try:
                with watch.trial():
                    watch.hear("b")
                    try:
                        with watch.trial():
                            watch.undo()
                            watch.undo()
                            watch.hear("bb")
                            if inner:
                                raise Stop
                    except Stop:
                        self.assertEqual(undone(watch), ["a", ""])
                    watch.hear("a")
                    if outer:
                        raise Stop
            except Stop:
                self.assertEqual(undone(watch), [""])
            self.assertEqual(watch.heard, "a" if outer else "aba" if inner else "bba")

    def test_one_object_of_trial_within_itself(self):
        for levels, ends in product(range(1, 6), range(6)):
            watch = heard_by(RARE, "b")
            trial = watch.trial()

            def go(level):
                if level == levels:
                    return
                with trial as held:
                    self.assertIs(held, watch)
                    held.hear("a")
                    go(level + 1)
                    held.hear("")
                    if level >= ends:
                        raise Stop

            try:
                go(0)
            except Stop:
                pass
            many = levels if ends >= levels else 0
            self.assertEqual(watch.heard, "b" + "a" * many)

    def test_an_inner_end_by_one_object(self):
        watch = Watch(RARE)
        trial = watch.trial()
        with trial:
            watch.hear("a")
            with self.assertRaises(Stop), trial:
                watch.hear("b")
                with trial:
                    watch.hear("b")
                raise Stop
            self.assertEqual(watch.heard, "a")
            with trial:
                watch.hear("b")
            self.assertEqual(watch.heard, "ab")
        self.assertEqual(undone(watch), ["a", ""])
        with self.assertRaises(Stop), trial:
            watch.undo()
            raise Stop
        self.assertEqual(undone(watch), ["a", ""])

    def test_begins_with_the_rows(self):
        watch = Watch(RARE)
        trial = watch.trial()
        watch.hear("ab")
        for _ in range(3):
            with self.assertRaises(Stop), trial as held:
                held.hear("a")
                raise Stop
            self.assertEqual(undone(watch), [""])
        with trial:
            watch.hear("a")
        self.assertEqual(undone(watch), ["ab", ""])

    def test_two_objects_over_one_another(self):
        watch = Watch(RARE)
        one, other = watch.trial(), watch.trial()
        self.assertTrue(one == one and one != other)
        with self.assertRaises(Stop), one:
            watch.hear("a")
            with other:
                watch.hear("b")
                with self.assertRaises(Stop), one:
                    watch.hear("a")
                    raise Stop
                self.assertEqual(watch.heard, "ab")
            raise Stop
        self.assertEqual((watch.heard, undone(watch)), ("", []))

    def test_tried_within_tried(self):
        watch = Watch(RARE)

        def inner(held):
            held.hear("b")
            raise Stop

        def outer(held):
            held.hear("a")
            self.raised_by(Stop, lambda: held.tried(inner))
            return held.heard

        self.assertEqual(watch.tried(outer), "a")
        self.assertEqual(undone(watch), [""])

    def test_rows_left_by_return_and_break_stay(self):
        watch = Watch(RARE)

        def leave():
            with watch.trial() as held:
                held.hear("a")
                return held.heard

        self.assertEqual(leave(), "a")
        for _ in range(2):
            with watch.trial() as held:
                held.hear("b")
                break
        self.assertEqual(watch.heard, "ab")


class WishesTest(WatchCase):
    """What watches of a wish, its guard, its hope and its opposite tell of the same beginnings."""

    def test_the_same_for_machines_that_are_alike(self):
        numbers = numbers_from(148)
        for machine in mixed_machines(90, 149):
            word = word_of(machine.letters, numbers, 9)
            others = [*disguised(machine, numbers), recoloured(machine), opposite(opposite(machine))]
            for length in (0, 1, 4, 9):
                watch = heard_by(machine, word[:length])
                for other in others:
                    beside = heard_by(other, word[:length])
                    self.assertEqual(
                        (beside.heard, beside.verdict, beside.nearest("bad"), beside.nearest("good")),
                        (watch.heard, watch.verdict, watch.nearest("bad"), watch.nearest("good")))

    def test_guard_hope_and_opposite(self):
        numbers = numbers_from(150)
        met = {}
        for machine in mixed_machines(240, 151):
            word = word_of(machine.letters, numbers, next(numbers) % 5)
            watch = heard_by(machine, word)
            safe, good, other = (heard_by(call(machine), word) for call in (guard, hope, opposite))
            met[watch.verdict] = met.get(watch.verdict, 0) + 1
            self.assertEqual(safe.verdict == "bad", watch.verdict == "bad")
            self.assertEqual(safe.nearest("bad"), watch.nearest("bad"))
            self.assertNotEqual(good.verdict, "bad")
            self.assertIs(good.nearest("bad"), None)
            self.assertEqual(good.state, watch.state)
            self.assertEqual(other.state, watch.state)
            self.assertEqual(other.verdict, {"bad": "good", "good": "bad", "open": "open"}[watch.verdict])
            self.assertEqual(
                [other.nearest("bad"), other.nearest("good")], [watch.nearest("good"), watch.nearest("bad")])
            if watch.verdict == "bad":
                self.assertEqual([good.verdict, good.nearest("good")], ["good", ""])
            if watch.verdict == "good":
                self.assertEqual([safe.verdict, good.verdict], ["good", "good"])
        self.assertGreater(min(met.values()), 15)

    def test_true_of_the_runs_that_go_on(self):
        numbers = numbers_from(152)
        for machine in mixed_machines(120, 153):
            word = word_of(machine.letters, numbers, 3)
            watch = heard_by(machine, word)
            truths = {
                lies_in(machine, (word + start, turn)) for start, turn in lassos_of(machine.letters, numbers, 20)}
            if watch.verdict != "open":
                self.assertEqual(truths, {watch.verdict == "good"})
            for wanted in ("bad", "good"):
                more = watch.nearest(wanted)
                if more is not None:
                    watch.hear(more)
                    self.assertEqual(watch.verdict, wanted)
                    watch.undo()

    def test_no_run_and_all_runs(self):
        for letters, colour in product(("q", "ab", "xyz"), range(7)):
            watch = heard_by(one_state(letters, colour), letters)
            self.assertEqual(watch.verdict, "bad" if colour % 2 else "good")
            self.assertEqual(watch.nearest("bad"), "" if colour % 2 else None)
            self.assertEqual(watch.nearest("good"), None if colour % 2 else "")

    def test_hostile_values_on_the_other_side(self):
        watch = Watch(RARE)
        self.assertIs(watch == SaysEqual(), False)
        self.assertIs(watch == Raises(), False)

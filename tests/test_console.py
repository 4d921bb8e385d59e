from itertools import product

from guardhopes import console as console_file
from guardhopes.console import Console
from guardhopes.errors import InvalidText, NotAMachine
from guardhopes.live import Watch
from guardhopes.machines import Machine
from guardhopes.parts import guard, hope, opposite, recoloured
from tests.cases import Case
from tests.demands import kinds_in
from tests.loops import depth_in, disguised, ladder, mixed_machines, no_machines, one_state, word_of
from tests.values import Raises, SaysEqual, numbers_from, odd_values

RARE = Machine.read("machine ab\nstate 1 0 1\nstate 2 0 2\nstate 1 2 2")
SOME = Machine("ab", ((1, (1, 0)), (0, (1, 1))))
QUESTIONS = ("verdict", "state", "heard", "nearest bad", "nearest good", "depth", "kinds")


def told(watch):
    """What a console says of its watch, told by the watch itself."""
    nearest = ["none" if word is None else word or "-" for word in (watch.nearest("bad"), watch.nearest("good"))]
    machine = watch.machine
    return [
        watch.verdict, str(watch.state), watch.heard or "-", *nearest, str(depth_in(machine)),
        " ".join(kinds_in(machine)) or "none"]


def said(console):
    return [console.say(line) for line in QUESTIONS]


class ConsoleCase(Case):
    def assert_says(self, console, line, answer):
        found = console.say(line)
        self.assertEqual(found, answer)
        self.assertIs(type(found), str)

    def assert_refuses(self, console, line):
        before = said(console)
        self.assert_given(InvalidText, line, lambda: console.say(line))
        self.assertEqual(said(console), before)


class LinesTest(ConsoleCase):
    def test_a_new_console(self):
        for machine in [RARE, SOME, *mixed_machines(90, 211)]:
            console = Console(machine)
            self.assertIs(type(console.watch), Watch)
            self.assertIs(console.watch.machine, machine)
            self.assertIs(console.watch, console.watch)
            self.assertEqual(said(console), told(Watch(machine)))
            self.assertEqual(console.say("heard"), "-")

    def test_hear_and_undo(self):
        console = Console(RARE)
        for line, answer, heard in (
            ("hear a", "ok", "a"), ("hear bab", "ok", "abab"), ("undo", "ok", "a"), ("undo", "ok", "-"),
            ("undo", "NothingToUndo", "-"), ("hear bb", "ok", "bb"), ("hear c", "InvalidWord", "bb"),
            ("hear abc", "InvalidWord", "bb"), ("hear a", "ok", "bba"), ("undo", "ok", "bb"),
        ):
            self.assert_says(console, line, answer)
            self.assert_says(console, "heard", heard)
            self.assertEqual(console.watch.heard or "-", heard)

    def test_as_the_watch_tells(self):
        numbers = numbers_from(212)
        verdicts = {}
        for machine in mixed_machines(120, 213):
            console, watch = Console(machine), Watch(machine)
            for length in (1, 1, 2, 5, 20):
                word = word_of(machine.letters, numbers, length)
                self.assert_says(console, "hear " + word, "ok")
                watch.hear(word)
                self.assertEqual(said(console), told(watch))
                verdicts[watch.verdict] = True
                if next(numbers) % 3 == 0:
                    self.assert_says(console, "undo", "ok")
                    watch.undo()
                    self.assertEqual(said(console), told(watch))
        self.assertEqual(len(verdicts), 3)

    def test_the_console_and_its_watch_are_one(self):
        console = Console(RARE)
        console.watch.hear("ab")
        self.assert_says(console, "heard", "ab")
        self.assert_says(console, "hear a", "ok")
        self.assertEqual(console.watch.heard, "aba")
        console.watch.hear("")
        self.assert_says(console, "undo", "ok")
        self.assert_says(console, "heard", "aba")
        console.watch.undo()
        self.assert_says(console, "state", "1")
        with self.assertRaises(KeyError), console.watch.trial():
            self.assert_says(console, "hear bb", "ok")
            self.assert_says(console, "verdict", "bad")
            raise KeyError
        self.assertEqual(said(console), told(console.watch))
        self.assertEqual([console.say("heard"), console.say("verdict")], ["ab", "open"])
        self.assertEqual(console.watch.tried(lambda held: console.say("hear a")), "ok")
        self.assertEqual(console.watch.heard, "aba")

    def test_too_many_letters(self):
        console = Console(RARE)
        self.assert_says(console, "hear " + "a" * 201, "InvalidWord")
        self.assert_says(console, "hear " + "a" * 1000, "InvalidWord")
        self.assert_says(console, "hear " + "ab" * 100, "ok")
        self.assert_says(console, "hear a", "TooLong")
        self.assert_says(console, "hear " + "a" * 200, "TooLong")
        self.assert_says(console, "hear c", "InvalidWord")
        self.assert_says(console, "hear " + "a" * 201, "InvalidWord")
        self.assertEqual(console.watch.heard, "ab" * 100)
        self.assert_says(console, "undo", "ok")
        self.assert_says(console, "undo", "NothingToUndo")
        self.assert_says(console, "heard", "-")

    def test_nearest(self):
        console = Console(RARE)
        for line, bad, good in (("hear a", "bb", "none"), ("hear b", "b", "none"), ("hear b", "-", "none")):
            console.say(line)
            self.assert_says(console, "nearest bad", bad)
            self.assert_says(console, "nearest good", good)
        console = Console(SOME)
        self.assertEqual([console.say("nearest good"), console.say("nearest bad")], ["a", "none"])
        console.say("hear ba")
        self.assertEqual([console.say("nearest good"), console.say("verdict")], ["-", "good"])

    def test_kinds_and_depth(self):
        for machine, kinds, depth in (
            (RARE, "again watchable", "2"), (SOME, "hope promise duty again stays watchable", "1"),
            (one_state("q", 0), "guard hope promise duty again stays watchable", "0"),
            (one_state("q", 1), "guard promise duty again stays watchable", "1"),
            (ladder("ab", (2, 1, 3)), "hope stays", "1"), (ladder("abc", (1, 2, 3, 4, 5, 6)), "hope", "6"),
        ):
            console = Console(machine)
            self.assert_says(console, "kinds", kinds)
            self.assert_says(console, "depth", depth)
            self.assertEqual(said(console), told(Watch(machine)))

    def test_a_wish_of_no_kind(self):
        found = {}
        for machine in mixed_machines(700, 214):
            kinds = " ".join(kinds_in(machine)) or "none"
            if kinds not in found:
                found[kinds] = True
                self.assert_says(Console(machine), "kinds", kinds)
        # An even loop between two odd ones, and a bad end: only each beginning can go on to a bad one.
        machine = Machine("abc", ((1, (1, 0, 3)), (2, (2, 0, 1)), (3, (2, 1, 2)), (1, (3, 3, 3))))
        self.assertEqual(kinds_in(machine), ["watchable"])
        self.assert_says(Console(machine), "kinds", "watchable")
        # From the third state on nothing is told for sure, and there are even loops and odd ones around each other.
        machine = Machine("abc", ((0, (1, 2, 0)), (1, (1, 1, 1)), (3, (2, 3, 4)), (4, (3, 2, 4)), (5, (4, 3, 2))))
        self.assertEqual(kinds_in(machine), [])
        self.assert_says(Console(machine), "kinds", "none")
        self.assertGreater(len(found), 8)


class WrongLinesTest(ConsoleCase):
    def test_none_of_the_lines(self):
        console = Console(RARE)
        console.say("hear ab")
        lines = [
            "", " ", "hear", "hear ", "hear  a", "hear a ", " hear a", "hear a b", "hear a\n", "hear\na", "hear\ta",
            "Hear a", "heara", "hear A", "hear aB", "hear 1", "hear a1", "hear -", "hear a-b", "hears a", "hear a.",
            "undo ", " undo", "undo a", "undo\n", "Undo", "undos", "undo undo", "verdict ", "verdict a", "verdicts",
            "state 1", "state ", "states", "heard ", "heard a", "heards", "nearest", "nearest ", "nearest open",
            "nearest  bad", "nearest bad ", " nearest bad", "nearest bad good", "nearest bad\n", "Nearest bad",
            "nearest Bad", "nearest baad", "bad", "good", "nearestbad", "depth 1", "depth ", "depths", "kinds guard",
            "kinds ", "kind", "len", "machine", "trial", "-", "none", "ok", "verdict state", "verdict\nstate", "\n",
            "hear ~", "open", "hear " + "A" * 300, "type",
        ]
        for line in lines:
            self.assert_refuses(console, line)

    def test_of_other_classes(self):
        console = Console(RARE)
        for line in [*odd_values(), 0, 1, (), ("undo",), ("hear", "a"), ["undo"], b"undo", SaysEqual(), Raises()]:
            self.assert_refuses(console, line)
            self.assert_given(InvalidText, line, lambda: console.say(line=line))

    def test_no_machine(self):
        for value in no_machines():
            self.assert_given(NotAMachine, value, lambda: Console(value))
            self.assert_given(NotAMachine, value, lambda: Console(machine=value))


class ValueTest(ConsoleCase):
    def test_equal_to_itself_alone(self):
        one, other = Console(RARE), Console(RARE)
        self.assertTrue(one == one and not one != one)
        for value in [other, one.watch, RARE, *odd_values(), "", 0, ()]:
            self.assertIs(one == value, False)
            self.assertIs(one != value, True)
        self.assertIs(bool(one), True)
        one.say("hear a")
        self.assertTrue(one == one and one != other)
        self.assertEqual(other.say("heard"), "-")

    def test_the_watch_is_not_assigned(self):
        console = Console(RARE)
        with self.assertRaises(AttributeError):
            console.watch = Watch(RARE)

    def test_defined_in_its_file_and_in_the_class_itself(self):
        self.assertEqual(Console.__module__, console_file.__name__)
        for name in ("say", "watch"):
            self.assertIn(name, vars(Console))

    def test_by_name(self):
        console = Console(machine=RARE)
        self.assertEqual([console.say(line="hear a"), console.say(line="heard")], ["ok", "a"])


class WishesTest(ConsoleCase):
    def test_of_a_wish_its_guard_its_hope_and_its_opposite(self):
        numbers = numbers_from(215)
        for machine in mixed_machines(90, 216):
            word = word_of(machine.letters, numbers, 3)
            console, safe, good, other = (
                Console(one) for one in (machine, guard(machine), hope(machine), opposite(machine)))
            for one in (console, safe, good, other):
                self.assert_says(one, "hear " + word, "ok")
            self.assertEqual(safe.say("nearest bad"), console.say("nearest bad"))
            self.assert_says(good, "nearest bad", "none")
            self.assertEqual(other.say("nearest good"), console.say("nearest bad"))
            self.assertEqual(other.say("nearest bad"), console.say("nearest good"))
            self.assertEqual(other.say("state"), console.say("state"))
            self.assertIn("guard", safe.say("kinds").split())
            self.assertIn("hope", good.say("kinds").split())
            self.assertLessEqual(int(safe.say("depth")), 1)

    def test_the_same_for_machines_that_are_alike(self):
        numbers = numbers_from(217)
        for machine in mixed_machines(60, 218):
            word = word_of(machine.letters, numbers, 4)
            console = Console(machine)
            console.say("hear " + word)
            for one in [*disguised(machine, numbers), recoloured(machine)]:
                beside = Console(one)
                beside.say("hear " + word)
                for line in QUESTIONS:
                    if line != "state":
                        self.assertEqual(beside.say(line), console.say(line))

    def test_no_run_and_all_runs(self):
        for letters, colour in product(("q", "ab", "xyz"), range(7)):
            console = Console(one_state(letters, colour))
            self.assert_says(console, "hear " + letters, "ok")
            self.assert_says(console, "verdict", "bad" if colour % 2 else "good")
            self.assert_says(console, "depth", str(colour % 2))

from itertools import combinations, product
from unittest import TestCase

from guardhopes.errors import InvalidChange, InvalidLetters, InvalidStates, InvalidText, NotAMachine
from guardhopes.machines import Machine
from guardhopes.runs import state_after
from tests.values import Raises, SaysEqual, odd_values, parts_of_machines, some_values, text_of

RARE = "machine ab\nstate 1 0 1\nstate 2 0 2\nstate 1 2 2"
RARE_STATES = ((1, (0, 1)), (2, (0, 2)), (1, (2, 2)))
ONE = ((0, (0, 0)),)
HEADS = {
    "machine " + "".join(letters): many
    for many in (1, 2, 3) for letters in combinations("abcdefghijklmnopqrstuvwxyz", many)
}


def is_text(text):
    """Whether a string is the text of a machine, read off its rows sign by sign."""
    head, *rows = text.split("\n")
    if head not in HEADS or not 1 <= len(rows) <= 6:
        return False
    following = "012345"[:len(rows)]
    for row in rows:
        if len(row) != 7 + 2 * HEADS[head] or row[:6] != "state " or row[6] not in "0123456":
            return False
        if any(row[k] != " " or row[k + 1] not in following for k in range(7, len(row), 2)):
            return False
    return True


class MachineCase(TestCase):
    def assert_kept(self, raised, kind, value):
        self.assertIs(type(raised.exception), kind)
        self.assertIs(raised.exception.given, value)

    def assert_letters_wrong(self, letters, states=ONE):
        with self.assertRaises(InvalidLetters) as raised:
            Machine(letters, states)
        self.assert_kept(raised, InvalidLetters, letters)

    def assert_states_wrong(self, letters, states, index):
        with self.assertRaises(InvalidStates) as raised:
            Machine(letters, states)
        self.assertIs(type(raised.exception), InvalidStates)
        if index is None:
            self.assertIsNone(raised.exception.index)
        else:
            self.assertEqual(raised.exception.index, index)
            self.assertIs(type(raised.exception.index), int)

    def assert_text_wrong(self, text):
        with self.assertRaises(InvalidText) as raised:
            Machine.read(text)
        self.assert_kept(raised, InvalidText, text)

    def assert_change_wrong(self, machine, change):
        before = str(machine)
        with self.assertRaises(InvalidChange) as raised:
            machine.changed(change)
        self.assert_kept(raised, InvalidChange, change)
        self.assertEqual(str(machine), before)


class MakingTest(MachineCase):
    def test_right_ones(self):
        sizes = set()
        for letters, states in parts_of_machines(360):
            machine = Machine(letters, states)
            sizes.add((len(letters), len(states)))
            self.assertIs(machine.letters, letters)
            self.assertIs(machine.states, states)
            self.assertEqual(len(machine), len(states))
            self.assertEqual(str(machine), text_of(letters, states))
            self.assertIs(bool(machine), True)
        self.assertEqual(sizes, set(product((1, 2, 3), range(1, 7))))

    def test_by_name(self):
        self.assertEqual(Machine(states=RARE_STATES, letters="ab"), Machine("ab", RARE_STATES))
        self.assertEqual(Machine.read(text=RARE), Machine("ab", RARE_STATES))
        self.assertEqual(Machine("ab", RARE_STATES).changed(change=(0, "a", 0)), Machine("ab", RARE_STATES))

    def test_each_letter_and_each_colour(self):
        for letter in "abcdefghijklmnopqrstuvwxyz":
            for colour in range(7):
                self.assertEqual(str(Machine(letter, ((colour, (0,)),))), f"machine {letter}\nstate {colour} 0")

    def test_states_that_nothing_leads_to(self):
        states = ((0, (0,)), (6, (5,)), (0, (1,)), (3, (3,)), (2, (2,)), (1, (0,)))
        self.assertIs(Machine("q", states).states, states)

    def test_wrong_letters(self):
        wrong = [
            "", "abcd", "aa", "aab", "abb", "aba", "ba", "acb", "bac", "cba", "A", "Ab", "aB", "1", "a1", "a b",
            " a", "a ", " ", "-", "`", "{", "a`", "a{", "a\n", "\n", "_", "~", "abcdefghijklmnopqrstuvwxyz",
            "aaaa", "a" * 200, 0, 1, 97, -1, (), ("a",), ("a", "b"), (("a",),),
        ]
        for letters in [*wrong, *odd_values()]:
            with self.subTest(str(len(letters)) if isinstance(letters, str) else type(letters)):
                self.assert_letters_wrong(letters)

    def test_wrong_letters_come_ahead_of_wrong_states(self):
        for letters in ("", "ba", "abcd", None, ["a"], True):
            for states in (None, (), [], ((7, (0,)),), 0, Raises()):
                self.assert_letters_wrong(letters, states)

    def test_no_tuple_of_states_and_none(self):
        listed = [list(RARE_STATES), [], "", "ab", 0, 1, -1]
        for states in [(), *listed, *odd_values()]:
            self.assert_states_wrong("ab", states, None)

    def test_elements_that_are_no_states(self):
        right = (0, (0, 0))
        wrong = [
            (), (0,), (0, (0, 0), 0), (0, 0), (0, 0, 0), ((0, 0), 0), (0, ()), (0, (0,)), (0, (0, 0, 0)),
            [0, (0, 0)], (0, [0, 0]), (0, "00"), (0, "ab"), ("0", (0, 0)), (0, ("0", "0")), (0, ("a", "b")),
            (-1, (0, 0)), (7, (0, 0)), (10 ** 39, (0, 0)), (-10 ** 39, (0, 0)), (0, (-1, 0)), (0, (0, -1)),
            (True, (0, 0)), (False, (0, 0)), (0, (True, 0)), (0, (0, False)), (0, (0, True)), (0, (False, 0)),
            (None, (0, 0)), (0, None), (0, (None, 0)), (0, (0, None)), ((0,), (0, 0)), (0, ((0,), 0)),
            (0, (0, 10 ** 39)), (Raises(), (0, 0)), (0, (0, Raises())), (0, Raises()), (SaysEqual(), (0, 0)),
            (0, SaysEqual()), (0, (SaysEqual(), 0)), "0", "00", 0, 1, *odd_values(),
        ]
        for element in wrong:
            for index in range(6):
                states = tuple(element if k == index else right for k in range(6))
                self.assert_states_wrong("ab", states, index)
            self.assert_states_wrong("ab", (element,), 0)

    def test_next_states_within_and_out_of_bounds(self):
        for count in range(1, 7):
            for index in range(count):
                for place in range(3):
                    for number in (-1, 0, count - 1, count, count + 1, 6, 7):
                        following = tuple(number if k == place else 0 for k in range(3))
                        states = tuple((3, following if k == index else (0, 0, 0)) for k in range(count))
                        if 0 <= number < count:
                            self.assertEqual(Machine("abc", states).states, states)
                        else:
                            self.assert_states_wrong("abc", states, index)

    def test_too_few_and_too_many_next_states(self):
        for letters, many in product(("a", "ab", "abc"), range(5)):
            states = ((0, (0,) * len(letters)), (0, (0,) * many))
            if many == len(letters):
                self.assertEqual(len(Machine(letters, states)), 2)
            else:
                self.assert_states_wrong(letters, states, 1)

    def test_the_first_wrong_element_counts(self):
        right, wrong = (0, (0,)), (0, (6,))
        self.assert_states_wrong("a", (right, wrong, wrong), 1)
        self.assert_states_wrong("a", (wrong, right, wrong, None), 0)
        self.assert_states_wrong("a", (right, right, None, wrong), 2)

    def test_a_seventh_state(self):
        right = (0, (0,))
        for many in (7, 8, 9, 20):
            self.assert_states_wrong("a", (right,) * many, 6)
        self.assert_states_wrong("a", (right,) * 6 + (None,), 6)
        self.assert_states_wrong("a", (right,) * 7 + (None,), 6)
        for index in range(6):
            states = (right,) * index + ((7, (0,)),) + (right,) * (6 - index)
            self.assert_states_wrong("a", states, index)

    def test_bounds_follow_the_number_of_elements_that_were_passed(self):
        self.assert_states_wrong("a", ((0, (6,)),) * 7, 6)
        self.assert_states_wrong("a", ((0, (7,)),) * 7, 0)
        self.assert_states_wrong("a", ((0, (0,)), (0, (7,))) + ((0, (0,)),) * 6, 6)

    def test_lists_that_are_passed_stay_as_they_are(self):
        states = [(0, [0])]
        self.assert_states_wrong("a", states, None)
        self.assert_states_wrong("a", tuple(states), 0)
        self.assertEqual(states, [(0, [0])])

    def test_letters_and_states_cannot_be_set(self):
        machine = Machine("ab", RARE_STATES)
        for name in ("letters", "states"):
            with self.assertRaises(AttributeError):
                setattr(machine, name, "a")
        self.assertEqual(str(machine), RARE)


class ReadingTest(MachineCase):
    def test_each_text_gives_its_machine(self):
        for letters, states in parts_of_machines(360, 2):
            text = text_of(letters, states)
            machine = Machine.read(text)
            self.assertIs(type(machine), Machine)
            self.assertEqual((machine.letters, machine.states), (letters, states))
            self.assertIs(type(machine.states), tuple)
            self.assertEqual(str(machine), text)
            self.assertEqual(machine, Machine(letters, states))

    def test_any_sign_more_less_or_otherwise(self):
        # Some of these are texts of other machines: then just this text must come out again.
        signs = [chr(k) for k in range(32, 127)] + ["\n"]
        for text in (RARE, "machine a\nstate 0 0", "machine abc\nstate 6 1 1 1\nstate 5 0 1 0"):
            texts = [text[:at] + sign + text[at:] for at in range(len(text) + 1) for sign in signs]
            texts += [text[:at] + sign + text[at + 1:] for at in range(len(text)) for sign in signs]
            texts += [text[:at] + text[at + 1:] for at in range(len(text))]
            right = 0
            for other in texts:
                if is_text(other):
                    right += 1
                    self.assertEqual(str(Machine.read(other)), other)
                else:
                    self.assert_text_wrong(other)
            self.assertTrue(0 < right < len(texts) // 20)

    def test_wrong_rows(self):
        for text in (
            "", "\n", " ", "machine", "machine ", "machine a", "machine ab", "machine a\n", "state 0 0",
            "machine\nstate 0 0", "machine \nstate 0", "machine \nstate 0 0", "machine a b\nstate 0 0 0",
            "machine ba\nstate 0 0 0", "machine aa\nstate 0 0 0", "machine abcd\nstate 0 0 0 0 0",
            "Machine a\nstate 0 0", "machines a\nstate 0 0", " machine a\nstate 0 0", "machine  a\nstate 0 0",
            "machine a \nstate 0 0", "machine a\n state 0 0", "machine a\nstate  0 0", "machine a\nstate 0  0",
            "machine a\nstate 0 0 ", "machine a\nstate 0 0\n", "\nmachine a\nstate 0 0", "machine a\n\nstate 0 0",
            "machine a\nstate 0 0\n\nstate 0 0", "machine a\nstate 0", "machine a\nstate", "machine a\nstate ",
            "machine a\nstate 0 ", "machine a\nstate 0 0 0", "machine a\nstate 0 1", "machine a\nstate 7 0",
            "machine a\nstate 00 0", "machine a\nstate 0 00", "machine a\nstate -1 0", "machine a\nstate +1 0",
            "machine a\nstate 0 -0", "machine a\nstate a 0", "machine a\nstate 0 a", "machine a\nstates 0 0",
            "machine a\nState 0 0", "machine a\n0 0", "machine a state 0 0", "machine a\nstate 0 0 state 0 0",
            "state 0 0\nmachine a", "machine a\nmachine a\nstate 0 0", "machine a\nstate 01 0",
            "machine ab\nstate 0 01", "machine ab\nstate 0 0", "machine a\r\nstate 0 0", "machine a\tstate 0 0",
            "machine a\nstate 0\t0", "machine a" + "\nstate 0 0" * 7, "machine a" + "\nstate 0 0" * 700,
            "machine a" + "\nstate 0 6" * 6, "machine a" + "\nstate 0 6" * 7, RARE + "\n", "\n" + RARE,
            RARE + "\nstate", RARE + "\nstate 0 0 4", RARE.replace("\n", " "), RARE.upper(), RARE + RARE,
        ):
            with self.subTest(text[:40]):
                self.assert_text_wrong(text)

    def test_six_rows_are_right(self):
        text = "machine a" + "\nstate 6 5" * 6
        self.assertEqual(Machine.read(text).states, ((6, (5,)),) * 6)

    def test_no_strings(self):
        machine = Machine.read(RARE)
        for text in [machine, Machine, 0, 1, (RARE,), ("machine", "a"), (), *odd_values(), RARE.encode()]:
            self.assert_text_wrong(text)


class ComparingTest(MachineCase):
    def assert_equal(self, one, other, truth):
        self.assertIs(one == other, truth)
        self.assertIs(other == one, truth)
        self.assertIs(one != other, not truth)
        self.assertIs(other != one, not truth)

    def test_equal_exactly_if_letters_and_states_are(self):
        parts = list(parts_of_machines(60, 3))
        for (at, one), (place, other) in product(enumerate(parts), repeat=2):
            self.assert_equal(Machine(*one), Machine(*other), one == other)
            if at == place:
                self.assert_equal(Machine(*one), Machine.read(text_of(*other)), True)

    def test_any_part_otherwise(self):
        machine = Machine("ab", RARE_STATES)
        for letters in ("ac", "bc", "az", "xy"):
            self.assert_equal(machine, Machine(letters, RARE_STATES), False)
        for state in range(3):
            self.assert_equal(machine, machine.changed((state, "colour", 6)), False)
            for letter in "ab":
                was = machine.states[state][1]["ab".index(letter)]
                self.assert_equal(machine, machine.changed((state, letter, (was + 1) % 3)), False)
        self.assert_equal(machine, Machine("ab", RARE_STATES + RARE_STATES[:1]), False)
        self.assert_equal(machine, Machine("ab", tuple(list(RARE_STATES))), True)
        self.assert_equal(machine, machine, True)

    def test_alike_wishes_do_not_make_machines_equal(self):
        self.assert_equal(Machine("a", ((0, (0,)),)), Machine("a", ((2, (0,)),)), False)

    def test_never_equal_to_a_value_of_another_class(self):
        machine = Machine("ab", RARE_STATES)
        twins = [RARE, ("ab", RARE_STATES), RARE_STATES, {"letters": "ab", "states": RARE_STATES}, 3, Machine]
        for value in [*some_values(), *twins]:
            self.assertIs(machine == value, False)
            self.assertIs(machine != value, True)
            if not isinstance(value, (SaysEqual, Raises)):
                self.assertIs(value == machine, False)
                self.assertIs(value != machine, True)

    def test_not_equal_to_another_class_with_the_same_attributes(self):
        class Twin:
            letters = _letters = "ab"
            states = _states = RARE_STATES

        self.assert_equal(Machine("ab", RARE_STATES), Twin(), False)


class ChangedTest(MachineCase):
    def test_each_change_of_some_machines(self):
        for letters, states in parts_of_machines(72, 4):
            machine = Machine(letters, states)
            for state in range(-1, len(states) + 1):
                for place, part in enumerate(["colour", *letters]):
                    for value in range(-1, 8):
                        bound = 7 if part == "colour" else len(states)
                        change = (state, part, value)
                        if 0 <= state < len(states) and 0 <= value < bound:
                            self.assert_gives(machine, change, place)
                        else:
                            self.assert_change_wrong(machine, change)
            self.assertIs(machine.states, states)
            self.assertIs(machine.letters, letters)

    def assert_gives(self, machine, change, place):
        rows = [[colour, *following] for colour, following in machine.states]
        rows[change[0]][place] = change[2]
        states = tuple((row[0], tuple(row[1:])) for row in rows)
        got = machine.changed(change)
        self.assertIs(type(got), Machine)
        self.assertEqual((got.letters, got.states), (machine.letters, states))
        self.assertEqual(str(got), text_of(machine.letters, states))

    def test_values_that_are_no_change(self):
        machine = Machine("ab", RARE_STATES)
        wrong = [
            (0, "colour"), (0, "colour", 0, 0), ("colour", 0, 0), (0, 0, "colour"), (0, "color", 0),
            (0, "Colour", 0), (0, "colour ", 0), (0, "", 0), (0, "c", 0), (0, "A", 0), (0, "ab", 0), (0, "ba", 0),
            (0, "aa", 0), (0, " ", 0), (0, "col", 0), (0, "o", 0), (0, 1, 0), (0, None, 0), (0, ("a",), 0),
            (0, ["a"], 0), (0, b"a", 0), (0, Raises(), 0), (0, SaysEqual(), 0), (True, "a", 0), (False, "a", 0),
            ("0", "a", 0), (None, "a", 0), ((0,), "a", 0), (Raises(), "a", 0), (SaysEqual(), "a", 0),
            (0, "a", True), (0, "a", False), (0, "colour", True), (0, "colour", False), (0, "a", "0"),
            (0, "a", "a"), (0, "a", None), (0, "a", (0,)), (0, "a", (0, 1)), (0, "colour", "1"),
            (0, "colour", None), (0, "colour", (1,)), (0, "a", Raises()), (0, "colour", SaysEqual()),
            (0, "a", 3), (0, "a", -1), (0, "a", 10 ** 39), (3, "a", 0), (-1, "a", 0), (10 ** 39, "colour", 0),
            (0, "colour", 7), (0, "colour", -1), [0, "colour", 0], [0, "a", 0], ((0, "a", 0),),
            ((0, "a", 0), (0, "b", 0)), "0a0", "aaa", "a", "", 0, 1, (), *odd_values(), machine,
        ]
        for change in wrong:
            self.assert_change_wrong(machine, change)

    def test_letters_of_another_machine(self):
        self.assert_change_wrong(Machine("b", ((0, (0,)),)), (0, "a", 0))
        self.assertEqual(str(Machine("b", ((0, (0,)),)).changed((0, "b", 0))), "machine b\nstate 0 0")

    def test_changes_one_behind_the_other(self):
        machine = Machine("ab", RARE_STATES)
        changed = machine.changed((2, "b", 0)).changed((2, "colour", 4)).changed((0, "a", 2))
        self.assertEqual(str(changed), "machine ab\nstate 1 2 1\nstate 2 0 2\nstate 4 2 0")
        self.assertEqual(str(machine), RARE)


class DefinedTest(MachineCase):
    def test_defined_in_its_file_and_class(self):
        self.assertEqual(Machine.__module__, "guardhopes.machines")
        for name in ("read", "letters", "states", "changed", "__len__", "__str__", "__eq__"):
            self.assertIn(name, Machine.__dict__)
        self.assertIsInstance(Machine.__dict__["read"], classmethod)
        self.assertIsInstance(Machine.__dict__["letters"], property)
        self.assertIsInstance(Machine.__dict__["states"], property)

    def test_what_is_no_machine(self):
        with self.assertRaises(NotAMachine) as raised:
            state_after(Machine, "")
        self.assert_kept(raised, NotAMachine, Machine)

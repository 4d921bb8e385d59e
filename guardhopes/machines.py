"""Machines with colours, which tell the wishes, and their texts."""

from guardhopes.errors import InvalidChange, InvalidLetters, InvalidStates, InvalidText, NotAMachine
from guardhopes.limits import MOST_COLOUR, MOST_LETTERS, MOST_STATES

COLOUR_PART = "colour"
ALPHABET = "abcdefghijklmnopqrstuvwxyz"
DIGITS = "0123456789"


def is_number(value, most):
    """Whether a value is an integer from 0 to the most."""
    return isinstance(value, int) and not isinstance(value, bool) and 0 <= value <= most


def is_letters(value):
    """Whether a value is the letters of some machine."""
    if not isinstance(value, str) or not 1 <= len(value) <= MOST_LETTERS:
        return False
    in_bounds = all([letter in ALPHABET for letter in value])
    return in_bounds and all([low < high for low, high in zip(value, value[1:])])


def is_state(value, width, count):
    """Whether a value is a state of a machine with so many letters and states."""
    if not isinstance(value, tuple) or len(value) != 2:
        return False
    colour, following = value
    if not is_number(colour, MOST_COLOUR) or not isinstance(following, tuple) or len(following) != width:
        return False
    return all([is_number(number, count - 1) for number in following])


def first_wrong_state(letters, states):
    """The index of the first element of a tuple that is not right as a state, -1 if all are."""
    for index, state in enumerate(states):
        if index == MOST_STATES or not is_state(state, len(letters), len(states)):
            return index
    return -1


def is_place(machine, state, part):
    """Whether the two tell a place of the machine that a change can give another value."""
    if not is_number(state, len(machine) - 1) or not isinstance(part, str):
        return False
    return part in (COLOUR_PART, *machine.letters)


def is_change(machine, value):
    """Whether a value is a change of the machine that gives a machine."""
    if not isinstance(value, tuple) or len(value) != 3:
        return False
    state, part, worth = value
    if not is_place(machine, state, part):
        return False
    return is_number(worth, MOST_COLOUR if part == COLOUR_PART else len(machine) - 1)


def with_item(row, index, value):
    """The tuple that has the value at the index, and all else as the given one."""
    return (*row[:index], value, *row[index + 1:])


def state_row(state):
    """The row of a text that tells a state."""
    return " ".join(["state", str(state[0]), *[str(number) for number in state[1]]])


def told_state(row):
    """The state that a row of a text tells, or None where it tells none of any machine."""
    words = row.split(" ")
    if words[0] != "state" or len(words) < 2:
        return None
    if not all([len(word) == 1 and word in DIGITS for word in words[1:]]):
        return None
    numbers = [int(word) for word in words[1:]]
    return (numbers[0], tuple(numbers[1:]))


def told_letters(row):
    """The word of the first row of a text that stands for the letters, or None where there is none."""
    words = row.split(" ")
    if words[0] != "machine" or len(words) != 2:
        return None
    return words[1]


class Machine:
    """A machine with colours: it begins at the state 0 and goes on with each letter."""

    def __init__(self, letters, states):
        if not is_letters(letters):
            raise InvalidLetters(letters)
        if not isinstance(states, tuple) or len(states) == 0:
            raise InvalidStates(None)
        wrong = first_wrong_state(letters, states)
        if wrong >= 0:
            raise InvalidStates(wrong)
        self._letters = letters
        self._states = states

    @classmethod
    def read(cls, text):
        """The machine with this text."""
        if not isinstance(text, str):
            raise InvalidText(text)
        rows = text.split("\n")
        letters = told_letters(rows[0])
        states = tuple([told_state(row) for row in rows[1:]])
        if not is_letters(letters) or len(states) == 0 or first_wrong_state(letters, states) >= 0:
            raise InvalidText(text)
        return cls(letters, states)

    @property
    def letters(self):
        """The letters, as they were passed."""
        return self._letters

    @property
    def states(self):
        """The states, as they were passed."""
        return self._states

    def __len__(self):
        return len(self._states)

    def __str__(self):
        return "\n".join([f"machine {self._letters}", *[state_row(state) for state in self._states]])

    def __eq__(self, other):
        return isinstance(other, Machine) and self._letters == other._letters and self._states == other._states

    def changed(self, change):
        """The machine behind a change; this one stays as it is."""
        if not is_change(self, change):
            raise InvalidChange(change)
        state, part, worth = change
        colour, following = self._states[state]
        if part == COLOUR_PART:
            colour = worth
        else:
            following = with_item(following, self._letters.find(part), worth)
        return Machine(self._letters, with_item(self._states, state, (colour, following)))


def check_machine(value):
    """Raises NotAMachine for what is no Machine."""
    if not isinstance(value, Machine):
        raise NotAMachine(value)

"""Runs that are being watched, letter by letter, and trials."""

from guardhopes.errors import InvalidWord, NothingToUndo, TooLong
from guardhopes.limits import MOST_WORD
from guardhopes.living import nearest_word, verdict_at
from guardhopes.machines import check_machine
from guardhopes.runs import is_word, state_behind


class Kept:
    """What is kept for the end of a trial, above what is kept for the one around it."""

    def __init__(self, moment, below):
        self.moment = moment
        self.below = below


class Trial:
    """For a `with` statement whose holder is as it was when the rows began if they end with an exception.

    The holder has all that changes in its moment, which is put in the place of another one and never changed.
    """

    def __init__(self, holder):
        self.holder = holder
        self.kept = None

    def __enter__(self):
        self.kept = Kept(self.holder.moment, self.kept)
        return self.holder

    def __exit__(self, kind, value, trace):
        holder = self.holder
        if kind is not None:
            holder.moment = self.kept.moment
        self.kept = self.kept.below


class Hearing:
    """All letters that were heard, and the moment ahead of the last ones, None at the beginning."""

    def __init__(self, told, before):
        self.told = told
        self.before = before


class Watch:
    """A run that is being watched; hearing and taking back change it."""

    def __init__(self, machine):
        check_machine(machine)
        self._machine = machine
        self._beginning = Hearing("", None)
        self.moment = self._beginning

    @property
    def machine(self):
        """The machine whose wish is watched."""
        return self._machine

    @property
    def heard(self):
        """All letters that were heard."""
        return self.moment.told

    @property
    def state(self):
        """The number of the state to which the letters lead."""
        return state_behind(self._machine, 0, self.moment.told)

    @property
    def verdict(self):
        """Whether the letters are a bad, a good or an open beginning."""
        return verdict_at(self._machine, self.state)

    def __len__(self):
        return len(self.moment.told)

    def __bool__(self):
        return True

    def __eq__(self, other):
        # Each watch has a beginning of its own, so none but itself has the same one.
        return isinstance(other, Watch) and self._beginning == other._beginning

    def hear(self, word):
        """Some letters more."""
        if not is_word(self._machine.letters, word):
            raise InvalidWord(word)
        if len(self) + len(word) > MOST_WORD:
            raise TooLong(MOST_WORD)
        self.moment = Hearing(self.moment.told + word, self.moment)

    def undo(self):
        """Takes back what was heard last."""
        if self.moment.before is None:
            raise NothingToUndo()
        self.moment = self.moment.before

    def nearest(self, wanted):
        """A shortest word that makes the beginning bad, or good, the first one in alphabetical order; or None."""
        return nearest_word(self._machine, self.state, wanted)

    def trial(self):
        """For a `with` statement: an exception that ends its rows takes back what they did."""
        return Trial(self)

    def tried(self, action):
        """What the function returns that is called with the watch within a trial."""
        with Trial(self) as held:
            return action(held)

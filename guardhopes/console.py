"""A watch by lines."""

from guardhopes.errors import InvalidText, InvalidWord, NothingToUndo, TooLong
from guardhopes.kinds import depth
from guardhopes.live import Watch
from guardhopes.machines import ALPHABET
from guardhopes.mends import KINDS, is_kind
from guardhopes.runs import is_spelled

HEAR = "hear "
NEAREST = "nearest "
LINES = ("undo", "verdict", "state", "heard", "nearest bad", "nearest good", "depth", "kinds")
DONE = "ok"
EMPTY = "-"
NONE = "none"


def is_line(value):
    """Whether a value is one of the lines."""
    if not isinstance(value, str):
        return False
    if value.startswith(HEAR):
        word = value[len(HEAR):]
        return len(word) > 0 and is_spelled(ALPHABET, word)
    return value in LINES


def shown(word):
    """What stands for a word, for the empty one, or for none."""
    if word is None:
        return NONE
    return word if word else EMPTY


def shown_kinds(machine):
    """The kinds that are true of the wish, or what stands for none."""
    found = [kind for kind in KINDS if is_kind(machine, kind)]
    return " ".join(found) if found else NONE


def answer(watch, line):
    """What a line does at the watch, or what it asks of it."""
    if line.startswith(HEAR):
        watch.hear(line[len(HEAR):])
        return DONE
    if line == "undo":
        watch.undo()
        return DONE
    if line == "verdict":
        return watch.verdict
    if line == "state":
        return str(watch.state)
    if line == "heard":
        return shown(watch.heard)
    if line == "depth":
        return str(depth(watch.machine))
    if line == "kinds":
        return shown_kinds(watch.machine)
    return shown(watch.nearest(line[len(NEAREST):]))


class Console:
    """A watch that is told and asked by lines."""

    def __init__(self, machine):
        self._watch = Watch(machine)

    @property
    def watch(self):
        """The watch of the console."""
        return self._watch

    def __eq__(self, other):
        return isinstance(other, Console) and self._watch == other._watch

    def say(self, line):
        """The answer to a line; where the watch refuses what it tells, the name of the error."""
        if not is_line(line):
            raise InvalidText(line)
        try:
            return answer(self._watch, line)
        except InvalidWord:
            return "InvalidWord"
        except TooLong:
            return "TooLong"
        except NothingToUndo:
            return "NothingToUndo"

"""Shelves of machines under names, with demands that hold all the time."""

from guardhopes.errors import Broken, InUse, InvalidDemand, InvalidIndex, InvalidName, NothingToUndo, UnknownName
from guardhopes.likeness import alike, within
from guardhopes.limits import MOST_LETTERS
from guardhopes.live import Trial
from guardhopes.living import BAD, GOOD
from guardhopes.machines import ALPHABET, DIGITS, check_machine, is_number
from guardhopes.mends import IN, OUT, holds, is_demand, is_demand_form

MOST_NAME = 8
ALIKE = "alike"
WITHIN = "within"


def is_name(value):
    """Whether a value is a name."""
    if not isinstance(value, str) or not 1 <= len(value) <= MOST_NAME or value[0] not in ALPHABET:
        return False
    return all([sign in ALPHABET or sign in DIGITS for sign in value])


def letters_asked(demand):
    """The letters of the words in a demand on a machine, one behind the other."""
    if demand[0] in (IN, OUT):
        return "".join(demand[1])
    return demand[1] if demand[0] in (BAD, GOOD) else ""


def is_demand_somewhere(value):
    """Whether a value is a demand on some machine."""
    return is_demand_form(ALPHABET, value) and len(set(letters_asked(value))) <= MOST_LETTERS


def is_shelf_demand(value):
    """Whether a value is a demand on some shelf."""
    if not isinstance(value, tuple):
        return False
    if len(value) == 2:
        return is_name(value[0]) and is_demand_somewhere(value[1])
    if len(value) != 3 or not isinstance(value[0], str) or value[0] not in (ALIKE, WITHIN):
        return False
    return is_name(value[1]) and is_name(value[2])


def names_in(demand):
    """The names in a demand on a shelf: A, or A and B."""
    return (demand[0],) if len(demand) == 2 else (demand[1], demand[2])


def holds_on(placed, demand):
    """Whether a demand on a shelf holds for machines under names."""
    one = placed[names_in(demand)[0]]
    if len(demand) == 2:
        return is_demand(one, demand[1]) and holds(one, demand[1])
    other = placed[demand[2]]
    if one.letters != other.letters:
        return False
    return alike(one, other) if demand[0] == ALIKE else within(one, other)


def check_demands(placed, asked):
    """Raises Broken with the index of the first demand that does not hold for machines under names."""
    for index, demand in enumerate(asked):
        if not holds_on(placed, demand):
            raise Broken(index)


class Standing:
    """All that stands on a shelf, the moment ahead of the last change, None at the beginning, and how many there are.

    It is never changed itself.
    """

    def __init__(self, placed, asked, before, many):
        self.placed = placed
        self.asked = asked
        self.before = before
        self.many = many


class Shelf:
    """Machines under names and demands on them, which hold; changes that would break one are refused."""

    def __init__(self):
        self._beginning = Standing({}, (), None, 0)
        self.moment = self._beginning

    @property
    def names(self):
        """The ascending tuple of the names."""
        return tuple(sorted(list(self.moment.placed)))

    @property
    def demands(self):
        """The demands, in the order in which they were made."""
        return self.moment.asked

    @property
    def changes(self):
        """How many changes can be taken back."""
        return self.moment.many

    def __len__(self):
        return len(self.moment.placed)

    def __bool__(self):
        return True

    def __eq__(self, other):
        # Each shelf has a beginning of its own, so none but itself has the same one.
        return isinstance(other, Shelf) and self._beginning == other._beginning

    def __contains__(self, x):
        return isinstance(x, str) and x in self.moment.placed

    def __iter__(self):
        raise TypeError("a shelf is not iterated over")

    def __getitem__(self, at):
        if at not in self:
            raise UnknownName(at)
        return self.moment.placed[at]

    def __setitem__(self, at, worth):
        if not is_name(at):
            raise InvalidName(at)
        check_machine(worth)
        placed = dict(self.moment.placed)
        placed[at] = worth
        check_demands(placed, self.moment.asked)
        self._go_on(placed, self.moment.asked)

    def _go_on(self, placed, asked):
        """A change more."""
        self.moment = Standing(placed, asked, self.moment, self.moment.many + 1)

    def remove(self, name):
        """Takes away what stands under a name."""
        if name not in self:
            raise UnknownName(name)
        for index, demand in enumerate(self.moment.asked):
            if name in names_in(demand):
                raise InUse(index)
        placed = dict(self.moment.placed)
        del placed[name]
        self._go_on(placed, self.moment.asked)

    def ask(self, demand):
        """A demand more, behind the others."""
        if not is_shelf_demand(demand):
            raise InvalidDemand(demand)
        for name in names_in(demand):
            if name not in self:
                raise UnknownName(name)
        asked = (*self.moment.asked, demand)
        check_demands(self.moment.placed, asked)
        self._go_on(self.moment.placed, asked)

    def lift(self, index):
        """Takes a demand away."""
        asked = self.moment.asked
        if not is_number(index, len(asked) - 1):
            raise InvalidIndex(index)
        self._go_on(self.moment.placed, (*asked[:index], *asked[index + 1:]))

    def undo(self):
        """Takes back the last change that is not taken back yet."""
        if self.moment.before is None:
            raise NothingToUndo()
        self.moment = self.moment.before

    def trial(self):
        """For a `with` statement: an exception that ends its rows takes back what they did."""
        return Trial(self)

    def tried(self, action):
        """What the function returns that is called with the shelf within a trial."""
        with Trial(self) as held:
            return action(held)

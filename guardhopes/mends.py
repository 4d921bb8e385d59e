"""Demands on machines, and the least sets of changes after which they hold."""

from guardhopes.errors import InvalidChanges, InvalidDemand, InvalidDemands, InvalidText
from guardhopes.kinds import comes_again, depth, does_stay, is_duty, is_guard, is_hope, is_promise
from guardhopes.likeness import alike
from guardhopes.limits import MOST_CHANGES, MOST_COLOUR, MOST_DEMANDS
from guardhopes.living import BAD, GOOD, is_watchable, verdict
from guardhopes.machines import Machine, check_machine, is_change, is_number, is_place
from guardhopes.runs import is_lasso, is_word, lies_in

KINDS = ("guard", "hope", "promise", "duty", "again", "stays", "watchable")
DEPTH = "depth"
IN = "in"
OUT = "out"
LIKE = "like"


def machine_told(text):
    """The machine with this text; None for anything else."""
    try:
        return Machine.read(text)
    except InvalidText:
        return None


def is_kind(machine, kind):
    """Whether the wish is of the kind that one of the words tells."""
    if kind == "guard":
        return is_guard(machine)
    if kind == "hope":
        return is_hope(machine)
    if kind == "promise":
        return is_promise(machine)
    if kind == "duty":
        return is_duty(machine)
    if kind == "again":
        return comes_again(machine)
    if kind == "stays":
        return does_stay(machine)
    return is_watchable(machine)


def is_demand_form(letters, value):
    """Whether a value has the form of a demand whose words have some letters; its text can be that of any machine."""
    if not isinstance(value, tuple) or not 1 <= len(value) <= 2 or not isinstance(value[0], str):
        return False
    if len(value) == 1:
        return value[0] in KINDS
    word, asked = value
    if word == DEPTH:
        return is_number(asked, MOST_COLOUR)
    if word in (IN, OUT):
        return is_lasso(letters, asked)
    if word in (BAD, GOOD):
        return is_word(letters, asked)
    return word == LIKE and machine_told(asked) is not None


def is_demand(machine, value):
    """Whether a value is a demand on the machine."""
    if not is_demand_form(machine.letters, value):
        return False
    return value[0] != LIKE or machine_told(value[1]).letters == machine.letters


def holds(machine, demand):
    """Whether a demand on a machine holds."""
    check_machine(machine)
    if not is_demand(machine, demand):
        raise InvalidDemand(demand)
    if len(demand) == 1:
        return is_kind(machine, demand[0])
    word, asked = demand
    if word == DEPTH:
        return depth(machine) <= asked
    if word in (BAD, GOOD):
        return verdict(machine, asked) == word
    if word == LIKE:
        return alike(machine, machine_told(asked))
    return lies_in(machine, asked) == (word == IN)


def first_wrong_demand(machine, demands):
    """The index of the first element of a tuple that is not right as a demand on the machine, -1 if all are."""
    for index, demand in enumerate(demands):
        if index == MOST_DEMANDS or not is_demand(machine, demand):
            return index
    return -1


def is_aimed(machine, value):
    """Whether a value is a triple of a state of the machine, a part of it, and anything."""
    return isinstance(value, tuple) and len(value) == 3 and is_place(machine, value[0], value[1])


def first_wrong_change(machine, changes):
    """The index of the first element of a tuple that is not right among changes of the machine, -1 if all are."""
    for index, change in enumerate(changes):
        if index == MOST_CHANGES or not is_aimed(machine, change):
            return index
    return -1


def parts_of(many):
    """All sets of so many places, as ascending tuples, those with fewer places first, equally long ones ascending."""
    parts = [tuple([k for k in range(many) if bits >> k & 1]) for bits in range(1 << many)]
    return sorted(parts, key=lambda places: (len(places), places))


def behind_changes(machine, changes):
    """The machine behind some changes; None if they are of the same place, or one of them gives no machine."""
    if len(set([(change[0], change[1]) for change in changes])) < len(changes):
        return None
    for change in changes:
        if not is_change(machine, change):
            return None
        machine = machine.changed(change)
    return machine


def is_mended(machine, demands, changes):
    """Whether some changes mend the machine for all demands."""
    behind = behind_changes(machine, changes)
    return behind is not None and all([holds(behind, demand) for demand in demands])


def mends(machine, demands, changes):
    """All least sets of changes that mend the machine for all demands, by their places in the changes."""
    check_machine(machine)
    if not isinstance(demands, tuple):
        raise InvalidDemands(None)
    wrong = first_wrong_demand(machine, demands)
    if wrong >= 0:
        raise InvalidDemands(wrong)
    if not isinstance(changes, tuple):
        raise InvalidChanges(None)
    wrong = first_wrong_change(machine, changes)
    if wrong >= 0:
        raise InvalidChanges(wrong)
    least = []
    for places in parts_of(len(changes)):
        is_greater = any([all([k in places for k in part]) for part in least])
        if not is_greater and is_mended(machine, demands, [changes[k] for k in places]):
            least.append(places)
    return tuple(least)

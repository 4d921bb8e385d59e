"""Machines that fit what was seen."""

from guardhopes.runs import is_endless, takes


def fits(machine, lasso, truth):
    """Whether a lasso is one of the letters of the machine, and lies in its wish just if the truth is True."""
    return is_endless(machine.letters, lasso) and takes(machine, lasso) == truth


def fitting(machines, seen):
    """The ascending tuple of the indexes of the machines that fit all pairs of a lasso and a truth."""
    return tuple([
        index for index, machine in enumerate(machines)
        if all([fits(machine, lasso, truth) for lasso, truth in seen])])

"""Rows of deeds: how they repeat, and their places in order."""

from pagesagain.checks import need_number
from pagesagain.machines import LONGEST_ROW, check_row
from pagesagain.powers import power


def repeat_end(machine, row, step):
    """The length of the longest end of the row that repeats with the step."""
    deeds = check_row(machine, row)
    need_number(step, 1, LONGEST_ROW)
    length = min(step, len(deeds))
    while length < len(deeds) and deeds[-length - 1] == deeds[step - length - 1]:
        length += 1
    return length


def repeat_steps(machine, row):
    """The ascending steps, below the row's length, with which all of it repeats."""
    deeds = check_row(machine, row)
    return tuple([step for step in range(1, len(deeds)) if repeats(deeds, step)])


def repeats(deeds, step):
    """Whether deeds, at least as many as the step, repeat with it."""
    return deeds[step:] == deeds[:len(deeds) - step]


def nth_row(machine, many, number):
    """Of the rows of so many deeds, ascending, that of the number."""
    need_number(many, 0, LONGEST_ROW)
    need_number(number, 0, row_count(machine, many) - 1)
    deeds = []
    left = number
    for _ in range(many):
        left, deed = divmod(left, machine.deeds)
        deeds.append(deed)
    return tuple(reversed(deeds))


def row_place(machine, row):
    """The row's number among the rows of as many deeds, ascending."""
    place = 0
    for deed in check_row(machine, row):
        place = place * machine.deeds + deed
    return place


def row_count(machine, many):
    """How many rows of so many deeds there are."""
    return power(machine.deeds, many)


def all_rows(machine, many):
    """All rows of so many deeds, ascending."""
    rows = [()]
    for _ in range(many):
        rows = [row + (deed,) for row in rows for deed in range(machine.deeds)]
    return rows

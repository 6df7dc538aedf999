"""Machines: deeds that lead states to states, and rows of deeds."""

from pagesagain.checks import is_number, is_sequence
from pagesagain.errors import BadMachine, BadRow, NoDeed, NoState
from pagesagain.walks import first_walks

MOST_STATES = 8
MOST_DEEDS = 4
LONGEST_ROW = 400


class Machine:
    """A table for each deed that tells by state the next one."""

    def __init__(self, tables):
        if not is_sequence(tables, 1, MOST_DEEDS):
            raise BadMachine(-1)
        for at, table in enumerate(tables):
            if not _is_table(table, tables[0]):
                raise BadMachine(at)
        self.tables = tuple([tuple(table) for table in tables])
        self.deeds = len(self.tables)
        self.states = len(self.tables[0])

    def __eq__(self, other):
        return isinstance(other, Machine) and self.tables == other.tables


def _is_table(value, first):
    """Whether any value is a table of as many states as the first table has."""
    # The first table is asked about itself ahead of all others, so it has a length here.
    if not is_sequence(value, 1, MOST_STATES) or len(value) != len(first):
        return False
    return all([is_number(state, 0, len(value) - 1) for state in value])


def is_state(machine, value):
    """Whether any value is a state of the machine."""
    return is_number(value, 0, machine.states - 1)


def is_deed(machine, value):
    """Whether any value is a deed of the machine."""
    return is_number(value, 0, machine.deeds - 1)


def need_state(machine, state):
    """The state itself; NoState for any value that is none."""
    if not is_state(machine, state):
        raise NoState(state)
    return state


def need_deed(machine, deed):
    """The deed itself; NoDeed for any value that is none."""
    if not is_deed(machine, deed):
        raise NoDeed(deed)
    return deed


def are_deeds(machine, value):
    """Whether any value is a sequence of deeds of the machine, however many."""
    return isinstance(value, (list, tuple)) and all([is_deed(machine, deed) for deed in value])


def is_row(machine, value, most=LONGEST_ROW):
    """Whether any value is a sequence of at most so many deeds."""
    return is_sequence(value, 0, most) and are_deeds(machine, value)


def check_row(machine, value):
    """The row as a tuple; BadRow for any value that is none."""
    if not is_sequence(value, 0, LONGEST_ROW):
        raise BadRow(-1)
    for at, deed in enumerate(value):
        if not is_deed(machine, deed):
            raise BadRow(at)
    return tuple(value)


def led(machine, state, row):
    """The state to which the row's deeds, in order, lead the state."""
    need_state(machine, state)
    return lead(machine, state, check_row(machine, row))


def lead(machine, state, deeds):
    """As led, for a state and deeds that were looked at before, however many they are."""
    for deed in deeds:
        state = machine.tables[deed][state]
    return state


def reached(machine, state):
    """The ascending states to which rows lead the state."""
    need_state(machine, state)
    return tuple(sorted(first_rows(machine, state)))


def first_rows(machine, state):
    """By state to which rows lead the state, the first such row, in the order of these rows."""
    rows = counted_rows(machine, state, 1)
    return {there: rows[there, number] for there, number in rows}


def counted_rows(machine, state, modulus):
    """By (state, number) the first row that leads the state so, the number being that of its deeds, modulo."""
    def follow(pair):
        here, number = pair
        return [(table[here], (number + 1) % modulus) for table in machine.tables]
    return first_walks((state, 0), follow)


def states_behind(machine, states):
    """The ascending states to which single deeds lead the states."""
    return sorted({table[state] for table in machine.tables for state in states})

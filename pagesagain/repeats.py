"""Ends that repeat and do harm: they hide whether their step was done once more."""

from pagesagain.apart import apart_behind, apart_layers, parting_row
from pagesagain.checks import is_paper, need_number
from pagesagain.machines import LONGEST_ROW, first_rows, is_row, lead, need_state, reached
from pagesagain.rows import all_rows, repeats


def harm_of(machine, first, step, more):
    """Which ends do harm with the step and so many deeds more: none, those to a length, or endless ones."""
    _need_harm(machine, first, step, more)
    states = reached(machine, first)
    apart = apart_behind(apart_layers(machine), more)
    longest = 0
    for word in all_rows(machine, step):
        length = _longest_end(machine, states, word, apart)
        if length is None:
            return ("endless",)
        longest = max(longest, length)
    return ("ends", longest) if longest >= step else ("none",)


def harm_paper(machine, first, step, more, length):
    """A history with an end of this length that does harm, and a row behind it that shows it; None if there is none."""
    _need_harm(machine, first, step, more)
    need_number(length, step)
    rows = first_rows(machine, first)
    states = [state for state in rows if len(rows[state]) + length <= LONGEST_ROW]
    layers = apart_layers(machine)
    apart = apart_behind(layers, more)
    words = all_rows(machine, step)
    for state in states:
        for word in words:
            end = _end(word, length)
            pair = _hidden_pair(machine, lead(machine, state, end), word)
            if pair in apart:
                return ("harm", rows[state] + end, parting_row(machine, layers, pair, more))
    return None


def harm_holds(machine, first, step, more, length, value):
    """Whether any value is a paper of an end of this length that does harm."""
    _need_harm(machine, first, step, more)
    need_number(length, step)
    if not is_paper(value, "harm", 3) or not all([is_row(machine, row) for row in value[1:]]):
        return False
    row, behind = value[1:]
    if len(row) < length or len(behind) != more or not repeats(row[len(row) - length:], step):
        return False
    one, other = _hidden_pair(machine, lead(machine, first, row), row[len(row) - step:])
    return lead(machine, one, behind) != lead(machine, other, behind)


def _need_harm(machine, first, step, more):
    """The errors that all functions of ends have."""
    need_state(machine, first)
    need_number(step, 1)
    need_number(more, 0)


def _hidden_pair(machine, state, word):
    """The state, and that to which the word, done once more, leads it."""
    return (state, lead(machine, state, word))


def _end(word, length):
    """The end of this length of the word done again and again."""
    row = word * (length // len(word) + 1)
    return row[len(row) - length:]


def _longest_end(machine, states, word, apart):
    """The greatest length to which ends that repeat the word, behind one of the states, do harm.

    None if there is no greatest one; below the word's length if none do harm.
    """
    harmed = [_hidden_pair(machine, state, word) in apart for state in range(machine.states)]
    # By state ahead of the end, the state behind it.
    behind = list(range(machine.states))
    length = 0
    while any([harmed[behind[state]] for state in states]):
        # So many turns of the word lead the states to those in which more turns keep them.
        if length == len(word) * machine.states:
            return None
        table = machine.tables[word[-1 - length % len(word)]]
        behind = [behind[then] for then in table]
        length += 1
    return length - 1

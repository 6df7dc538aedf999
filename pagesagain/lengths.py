"""The least length of pages from the losses on, papers for a length, and rounds."""

from pagesagain.bounds import MOST_LOSS, need_length, need_loss, need_modulus
from pagesagain.checks import need_number
from pagesagain.machines import lead, need_state, reached
from pagesagain.repeats import harm_of, harm_paper
from pagesagain.rows import all_rows


def least_from(machine, first, loss, modulus=1):
    """The least length, of those from the loss on, with which the link is right; None if there is none."""
    need_state(machine, first)
    least = need_loss(loss)
    need_modulus(modulus)
    for step, more in _hidden_steps(loss, modulus):
        told = harm_of(machine, first, step, more)
        if told == ("endless",):
            return None
        if told != ("none",):
            least = max(least, told[1] + more + 1)
    return least


def length_paper(machine, first, length, loss, modulus=1):
    """None if the link is right, else a step, deeds more, and the paper of an end that does harm with them."""
    need_state(machine, first)
    need_length(length)
    need_number(loss, 0, min(MOST_LOSS, length))
    need_modulus(modulus)
    for step, more in _hidden_steps(loss, modulus):
        paper = harm_paper(machine, first, step, more, length - more)
        if paper is not None:
            return (step, more, paper)
    return None


def rounds_of(machine, first, loss):
    """How often each row of at most so many deeds is done until it moves no state that comes; None if never."""
    need_state(machine, first)
    need_loss(loss)
    states = reached(machine, first)
    most = 0
    for many in range(1, loss + 1):
        for row in all_rows(machine, many):
            leads = [lead(machine, state, row) for state in range(machine.states)]
            for state in states:
                rounds = _rounds_until_rest(leads, state)
                if rounds is None:
                    return None
                most = max(most, rounds)
    return most


def _hidden_steps(loss, modulus):
    """The steps that the numbers hide, each with the deeds that may be done more within the loss."""
    return [(step, more) for step in range(modulus, loss + 1, modulus) for more in range(loss - step + 1)]


def _rounds_until_rest(leads, state):
    """After how many rounds a row, told by where it leads each state, moves the state no more; None if never."""
    rounds = 0
    while leads[state] != state:
        # So many rounds that rest nowhere come back somewhere.
        if rounds == len(leads):
            return None
        state = leads[state]
        rounds += 1
    return rounds

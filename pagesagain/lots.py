"""Lots: the states in which the sender may have been when it sent the last page that was heard."""

from pagesagain.checks import is_sequence, need_number
from pagesagain.errors import Refused
from pagesagain.machines import is_state
from pagesagain.pages import check_page, sent_states, states_left

MOST_LOST = 100


def is_sure(link, page):
    """Whether a page tells the state by itself."""
    return len(sent_states(link, page)) == 1


def lot_behind(link, lot, page, then, *, loss=None):
    """The ascending states in which the sender may be when it sends a later page; () if that cannot be sent so."""
    states = _need_lot(link.machine, lot)
    heard = check_page(link, page)
    later = check_page(link, then)
    return states_left(link, states, heard, later, _greatest_loss(link, loss))


def lots_along(link, lot, page, pages, *, loss=None):
    """Behind each of the pages, heard one behind another, the lot; () from the first on that cannot be sent so."""
    states = _need_lot(link.machine, lot)
    heard = check_page(link, page)
    if not isinstance(pages, (list, tuple)):
        raise Refused(pages)
    later = [check_page(link, value) for value in pages]
    most = _greatest_loss(link, loss)
    lots = []
    for then in later:
        states = states_left(link, states, heard, then, most)
        heard = then
        lots.append(states)
    return tuple(lots)


def _need_lot(machine, value):
    """The lot as a tuple; Refused for any value that is none."""
    if not is_sequence(value, 1, machine.states) or not all([is_state(machine, state) for state in value]):
        raise Refused(value)
    states = tuple(value)
    if list(states) != sorted(set(states)):
        raise Refused(value)
    return states


def _greatest_loss(link, loss):
    """How many deeds there can be between two pages, as far as more of them make no difference."""
    # Rows ahead of the deeds of a page lead a state to no more states, with no more numbers, than those so short.
    most = link.length + link.machine.states * link.modulus - 1
    return most if loss is None else min(need_number(loss, 0, MOST_LOST), most)

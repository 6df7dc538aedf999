"""Links, the pages that are sent over them, and what fits behind a sight."""

from pagesagain.bounds import need_length, need_loss, need_modulus
from pagesagain.checks import is_number, is_sequence
from pagesagain.errors import BadPage, Refused
from pagesagain.machines import check_row, counted_rows, is_row, is_state, lead, need_state, states_behind


class Link:
    """A machine and its first state, the length and the numbers of pages, and the bound on losses."""

    def __init__(self, machine, first, length, loss, modulus=1):
        need_state(machine, first)
        self.machine = machine
        self.first = first
        self.length = need_length(length)
        self.loss = need_loss(loss)
        self.modulus = need_modulus(modulus)

    def __eq__(self, other):
        return (isinstance(other, Link) and self.machine == other.machine and self.first == other.first
                and self.length == other.length and self.loss == other.loss and self.modulus == other.modulus)


def page_of(link, row):
    """The page behind a history."""
    return page_behind(link, check_row(link.machine, row))


def check_page(link, value):
    """The page as tuples; BadPage for any value that is none."""
    fault = page_fault(link, value)
    if fault is not None:
        raise BadPage(fault)
    return as_page(value)


def sight_of(link, row):
    """The state behind a history, and its page."""
    deeds = check_row(link.machine, row)
    return (lead(link.machine, link.first, deeds), page_behind(link, deeds))


def sent_states(link, page):
    """The ascending states that have a sight with this page."""
    return _states_of(link, check_page(link, page))


def check_sight(link, value):
    """The sight as tuples; Refused for any value that is no sight of any history."""
    if not is_sequence(value, 2, 2):
        raise Refused(value)
    state, page = value
    if not is_state(link.machine, state) or page_fault(link, page) is not None:
        raise Refused(value)
    told = as_page(page)
    if state not in _states_of(link, told):
        raise Refused(value)
    return (state, told)


def fitting(link, sight, page):
    """The ascending numbers of deeds that fit between the sight and the page."""
    _, heard = check_sight(link, sight)
    then = check_page(link, page)
    return tuple([many for many in range(link.loss + 1) if _fits(link, heard, then, many)])


def fitting_states(link, sight, page):
    """The ascending states to which rows that leave the page behind the sight lead its state."""
    state, heard = check_sight(link, sight)
    return states_left(link, (state,), heard, check_page(link, page), link.loss)


def last_deeds(deeds, many):
    """The last so many deeds, all of them if there are fewer."""
    # A slice from -many on would be all deeds for none.
    return deeds[max(0, len(deeds) - many):]


def page_behind(link, deeds):
    """The page behind deeds that were looked at before."""
    return (last_deeds(deeds, link.length), len(deeds) % link.modulus)


def page_later(link, page, row):
    """The page behind a page and a row."""
    deeds, number = page
    return (last_deeds(deeds + row, link.length), (number + len(row)) % link.modulus)


def states_left(link, states, heard, then, loss):
    """The ascending states to which rows that leave a page behind the one that was heard lead the states.

    The rows have at most so many deeds.
    """
    machine = link.machine
    deeds, _ = then
    heads = states
    found = []
    for many in range(loss + 1):
        # Only deeds ahead of those that the page tells, if there are such, may be any.
        if many > len(deeds):
            heads = states_behind(machine, heads)
        if _fits(link, heard, then, many):
            found.extend([lead(machine, head, last_deeds(deeds, many)) for head in heads])
    return tuple(sorted(set(found)))


def row_between(link, heard, then):
    """The first row of a deed or more that can be lost and leaves a page behind one; None if there is none."""
    for many in range(1, link.loss + 1):
        if _fits(link, heard, then, many):
            return _row_to(then, many)
    return None


def page_fault(link, value):
    """What BadPage tells of any value, None for a page."""
    if not is_sequence(value, 2, 2):
        return -1
    deeds, number = value
    if not is_row(link.machine, deeds, link.length):
        return 0
    if not is_number(number, 0, link.modulus - 1):
        return 1
    if len(deeds) < link.length and number != len(deeds) % link.modulus:
        return 1
    return None


def as_page(value):
    """A page as tuples."""
    deeds, number = value
    return (tuple(deeds), number)


def _states_of(link, page):
    """As sent_states, for a page of tuples."""
    deeds, number = page
    machine = link.machine
    if len(deeds) < link.length:
        # Such a page tells its whole history.
        return (lead(machine, link.first, deeds),)
    ahead = (number - len(deeds)) % link.modulus
    counted = counted_rows(machine, link.first, link.modulus)
    return tuple(sorted({lead(machine, state, deeds) for state, many in counted if many == ahead}))


def _fits(link, heard, then, many):
    """Whether some row of so many deeds leaves a page behind the one that was heard."""
    return page_later(link, heard, _row_to(then, many)) == then


def _row_to(then, many):
    """The first row of so many deeds that can leave the page, if there is one."""
    deeds, _ = then
    # Deeds that the page does not tell may be any, so they stand here as deeds 0.
    return (0,) * (many - len(deeds)) + last_deeds(deeds, many)

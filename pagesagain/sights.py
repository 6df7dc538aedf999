"""The sights that come over a link, and what is heard behind them."""

from pagesagain.errors import Refused, TooGreat
from pagesagain.pages import check_page, check_sight, fitting_states, page_later
from pagesagain.walks import first_walks

MOST_SIGHTS = 4000


def sights_of(link):
    """All sights that come, ascending."""
    return tuple(sorted(sight_rows(link, MOST_SIGHTS)))


def sight_row(link, sight):
    """The first row that leaves the sight."""
    asked = check_sight(link, sight)
    return sight_rows(link, MOST_SIGHTS)[asked]


def heard_sight(link, sight, page):
    """The sight of whoever knew a sight and hears a page; None if several states are left open."""
    states = fitting_states(link, sight, page)
    if not states:
        raise Refused(page)
    return (states[0], check_page(link, page)) if len(states) == 1 else None


def sight_rows(link, most):
    """By sight that comes the first row that leaves it, in the order of these rows; TooGreat above so many."""
    rows = first_walks((link.first, ((), 0)), lambda sight: next_sights(link, sight), most)
    if len(rows) > most:
        raise TooGreat(most)
    return rows


def next_sights(link, sight):
    """By deed the sight one deed behind a sight."""
    state, page = sight
    return [(table[state], page_later(link, page, (deed,))) for deed, table in enumerate(link.machine.tables)]

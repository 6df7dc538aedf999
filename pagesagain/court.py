"""Whether a link is right: whether what a receiver knew and heard always tells it the state."""

from pagesagain.bounds import need_loss, need_modulus
from pagesagain.checks import is_paper
from pagesagain.errors import TooGreat
from pagesagain.lengths import least_from
from pagesagain.machines import is_row, lead, need_state
from pagesagain.pages import Link, page_behind
from pagesagain.rows import row_count
from pagesagain.sights import MOST_SIGHTS, next_sights, sight_rows
from pagesagain.walks import first_walks


class Court:
    """The sights that come over a link, by number: their first rows, what follows, their states and pages."""

    def __init__(self, link, most):
        found = sight_rows(link, most)
        numbers = {sight: number for number, sight in enumerate(found)}
        pages = {}
        self.rows = list(found.values())
        self.behind = [[numbers[then] for then in next_sights(link, sight)] for sight in found]
        self.states = [state for state, _ in found]
        # One number for each page, as it is looked up again and again.
        self.pages = [pages.setdefault(page, len(pages)) for _, page in found]
        self.loss = link.loss


def is_right(link):
    """Whether no sight that comes, with no page that can be sent behind it, leaves several states open."""
    return _open_sight(Court(link, MOST_SIGHTS)) is None


def court_paper(link):
    """None for a right link, else two runs that send one page in unlike states behind one sight."""
    court = Court(link, MOST_SIGHTS)
    start = _open_sight(court)
    if start is None:
        return None
    one, other = _open_rows(court, start)
    return ("runs", court.rows[start], one, other)


def runs_hold(link, value):
    """Whether any value is a paper of two runs that send one page in unlike states behind one row."""
    machine = link.machine
    if not is_paper(value, "runs", 4) or not is_row(machine, value[1]):
        return False
    if not all([is_row(machine, row, link.loss) for row in value[2:]]):
        return False
    one, other = [tuple(value[1]) + tuple(row) for row in value[2:]]
    if page_behind(link, one) != page_behind(link, other):
        return False
    return lead(machine, link.first, one) != lead(machine, link.first, other)


def open_pairs(link):
    """The ascending pairs of states that some sight and some page behind it leave open."""
    court = Court(link, MOST_SIGHTS)
    pairs = set()
    for start in range(len(court.rows)):
        near = _near_sights(court, start)
        if _leaves_open(court, near):
            for one, other in _open_states(court, near):
                pairs.add((one, other))
    return tuple(sorted(pairs))


def least_length(machine, first, loss, modulus=1, *, most=MOST_SIGHTS):
    """The least length of pages for which a link is right; None if there is none."""
    need_state(machine, first)
    need_loss(loss)
    need_modulus(modulus)
    for length in range(loss):
        if _open_sight(Court(Link(machine, first, length, loss, modulus), most)) is None:
            return length
    # From the loss on no sights are looked at, but there is a page, and so a sight, for each row of such a length.
    if row_count(machine, loss) > most:
        raise TooGreat(most)
    return least_from(machine, first, loss, modulus)


def _open_sight(court):
    """The number of the first sight that, with some page behind it, leaves several states open; None for none."""
    for start in range(len(court.rows)):
        if _leaves_open(court, _near_sights(court, start)):
            return start
    return None


def _near_sights(court, start):
    """The numbers of the sights that rows of at most as many deeds as can be lost leave behind one."""
    seen = {start}
    near = [start]
    layer = [start]
    for _ in range(court.loss):
        fresh = []
        for sight in layer:
            for then in court.behind[sight]:
                if then not in seen:
                    seen.add(then)
                    fresh.append(then)
        near.extend(fresh)
        layer = fresh
    return near


def _leaves_open(court, near):
    """Whether two of the sights have one page: they are unlike, so their states are."""
    pages = court.pages
    return len({pages[sight] for sight in near}) < len(near)


def _open_states(court, near):
    """The pairs of states of the sights that have one page, the lesser one first."""
    told = {}
    for sight in near:
        told.setdefault(court.pages[sight], []).append(court.states[sight])
    return [(one, other) for those in told.values() for one in those for other in those if one < other]


def _open_rows(court, start):
    """Two rows that leave one page in unlike states behind a sight that leaves several states open."""
    # Two such rows are within the losses, so the first ones of all that leave one page are, too.
    told = {}
    for sight, row in first_walks(start, lambda number: court.behind[number]).items():
        if told.setdefault(court.pages[sight], row) != row:
            return (told[court.pages[sight]], row)
    return None

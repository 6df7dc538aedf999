"""Whether a link is right: whether what a receiver knew and heard always tells it the state."""

from pagesagain.bounds import need_loss, need_modulus
from pagesagain.checks import is_paper
from pagesagain.errors import TooGreat
from pagesagain.lengths import least_from
from pagesagain.machines import is_row, lead, need_state
from pagesagain.pages import Link, page_behind
from pagesagain.rows import row_count
from pagesagain.sights import MOST_SIGHTS, next_sights, sight_rows
from pagesagain.walks import first_walks


class Court:
    """The sights that come over a link, one behind another: their first rows, what follows, and what is heard.

    What is heard is a page with the colour of the sender's state. (Of one colour it tells nothing more.)
    """

    def __init__(self, link, most, colours):
        found = sight_rows(link, most)
        places = {sight: place for place, sight in enumerate(found)}
        heard = {}
        self.rows = list(found.values())
        self.behind = [[places[then] for then in next_sights(link, sight)] for sight in found]
        self.states = [state for state, _ in found]
        self.numbers = [number for _, (_, number) in found]
        # One number for all that is heard alike, as it is looked up again and again.
        self.heard = [heard.setdefault((page, colours[state]), len(heard)) for state, page in found]
        self.loss = link.loss


def is_right(link):
    """Whether no sight that comes, with no page that can be sent behind it, leaves several states open."""
    return _open_sight(_plain_court(link, MOST_SIGHTS)) is None


def court_paper(link):
    """None for a right link, else two runs that send one page in unlike states behind one sight."""
    rows = _open_runs(_plain_court(link, MOST_SIGHTS))
    return None if rows is None else ("runs",) + rows


def runs_hold(link, value):
    """Whether any value is a paper of two runs that send one page in unlike states behind one row."""
    return is_paper(value, "runs", 4) and run_states(link, value[1:]) is not None


def open_pairs(link):
    """The ascending pairs of states that some sight and some page behind it leave open."""
    return tuple(sorted({(one, other) for _, one, other in numbered_pairs(link)}))


def numbered_pairs(link):
    """The ascending (number, one, other): a pair of states that a sight and a page of this number leave open."""
    court = _plain_court(link, MOST_SIGHTS)
    found = set()
    for start in range(len(court.rows)):
        near = _near_sights(court, start)
        if _leaves_open(court, near):
            for number, one, other in _open_states(court, near):
                found.add((number, one, other))
    return sorted(found)


def coloured_runs(link, colours):
    """A row and two behind it that send one page in unlike states of one colour; None if there are none."""
    return _open_runs(Court(link, MOST_SIGHTS, colours))


def run_states(link, rows):
    """The unlike states in which two rows of deeds that can be lost send one page behind a row; None if they do not.

    The three rows are any values.
    """
    machine = link.machine
    if not is_row(machine, rows[0]) or not all([is_row(machine, row, link.loss) for row in rows[1:]]):
        return None
    one, other = [tuple(rows[0]) + tuple(row) for row in rows[1:]]
    states = (lead(machine, link.first, one), lead(machine, link.first, other))
    return states if page_behind(link, one) == page_behind(link, other) and states[0] != states[1] else None


def least_length(machine, first, loss, modulus=1, *, most=MOST_SIGHTS):
    """The least length of pages for which a link is right; None if there is none."""
    need_state(machine, first)
    need_loss(loss)
    need_modulus(modulus)
    for length in range(loss):
        if _open_sight(_plain_court(Link(machine, first, length, loss, modulus), most)) is None:
            return length
    # From the loss on no sights are looked at, but there is a page, and so a sight, for each row of such a length.
    if row_count(machine, loss) > most:
        raise TooGreat(most)
    return least_from(machine, first, loss, modulus)


def _plain_court(link, most):
    """The court of pages without colours."""
    return Court(link, most, (0,) * link.machine.states)


def _open_runs(court):
    """The first row to a sight that leaves several states open, and two rows behind it; None if none does."""
    start = _open_sight(court)
    return None if start is None else (court.rows[start],) + _open_rows(court, start)


def _open_sight(court):
    """The place of the first sight that, with what is heard behind it, leaves several states open; None for none."""
    for start in range(len(court.rows)):
        if _leaves_open(court, _near_sights(court, start)):
            return start
    return None


def _near_sights(court, start):
    """The places of the sights that rows of at most as many deeds as can be lost leave behind one."""
    seen = {start}
    near = [start]
    layer = [start]
    for _ in range(court.loss):
        fresh = []
        for sight in layer:
            for then in court.behind[sight]:
                if then not in seen:
                    seen.add(then)
                    fresh.append(then)
        near.extend(fresh)
        layer = fresh
    return near


def _leaves_open(court, near):
    """Whether two of the sights are heard alike: they are unlike, so their states are."""
    heard = court.heard
    return len({heard[sight] for sight in near}) < len(near)


def _open_states(court, near):
    """The number of the page, the lesser and the greater state, of all two of the sights that are heard alike."""
    told = {}
    for sight in near:
        told.setdefault((court.numbers[sight], court.heard[sight]), []).append(court.states[sight])
    return [(number, one, other) for (number, _), those in told.items() for one in those for other in those
            if one < other]


def _open_rows(court, start):
    """Two rows behind a sight that leaves several states open, such that what is heard behind them is alike."""
    # Two such rows are within the losses, so the first ones of all that are heard alike are, too.
    told = {}
    for sight, row in first_walks(start, lambda place: court.behind[place]).items():
        if told.setdefault(court.heard[sight], row) != row:
            return (told[court.heard[sight]], row)
    return None

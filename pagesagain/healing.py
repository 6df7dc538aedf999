"""Healing: how wide lots can get, and how soon whoever comes late is sure of the state."""

from pagesagain.bounds import need_loss
from pagesagain.checks import is_number, is_paper
from pagesagain.errors import Refused, TooGreat
from pagesagain.knots import left_order
from pagesagain.lotwalks import LotWalk, lot_of
from pagesagain.machines import is_row
from pagesagain.pages import as_page, page_fault, page_later, row_between, sent_states, states_left
from pagesagain.sights import MOST_SIGHTS, sight_rows

MOST_PAIRS = 4000


def widest_lot(link, loss, *, most=MOST_PAIRS):
    """The most states that the lot of a receiver can have that hears from the beginning on, with this loss."""
    need_loss(loss)
    walk = LotWalk(link)
    start = (lot_of([link.first]), walk.number(((), 0)))
    waiting = [start]
    met = {start: True}
    while waiting:
        # All but the first one, which they have before they hear anything.
        if len(met) - 1 > most:
            raise TooGreat(most)
        lot, page = waiting.pop()
        for then, states in walk.lots_behind(lot, page, loss).items():
            if (states, then) not in met:
                met[states, then] = True
                waiting.append((states, then))
    return max([walk.sizes[lot] for lot, _ in met])


def heal_pages(link, *, most=MOST_PAIRS):
    """Behind how many pages more, at the most, whoever comes late is sure; None if there is no such number."""
    _, behind = _unsure_pairs(link, most)
    counts = _pages_until_sure(behind)
    return None if None in counts else max(counts, default=0)


def heal_paper(link, *, most=MOST_PAIRS):
    """None if there is such a number, else a ring of pages along which a late one is never sure."""
    pages, behind = _unsure_pairs(link, most)
    counts = _pages_until_sure(behind)
    if None not in counts:
        return None
    path, again = _endless_path(behind, counts)
    heard = [pages[place] for place in path + [path[again]]]
    rows = [row_between(link, page, then) for page, then in zip(heard, heard[1:])]
    return ("ring", heard[0], tuple(rows), again)


def heal_holds(link, value):
    """Whether any value is a paper of a ring of pages along which a late one is never sure."""
    if not is_paper(value, "ring", 4):
        return False
    _, page, rows, again = value
    if page_fault(link, page) is not None or not _are_lost(link, rows) or not is_number(again, 0, len(rows) - 1):
        return False
    heard = as_page(page)
    lot = sent_states(link, heard)
    pairs = [(lot, heard)]
    for row in rows:
        then = page_later(link, heard, tuple(row))
        lot = states_left(link, lot, heard, then, link.loss)
        heard = then
        pairs.append((lot, heard))
    return pairs[-1] == pairs[again] and all([len(states) > 1 for states, _ in pairs])


def _are_lost(link, value):
    """Whether any value is a sequence of rows of a deed or more each, which can be lost."""
    if not isinstance(value, (list, tuple)):
        return False
    return all([is_row(link.machine, row, link.loss) and len(row) > 0 for row in value])


def _unsure_pairs(link, most):
    """The pages of the pairs that late ones come to before they are sure; and by pair the next ones.

    A pair is a lot of several states and a page.
    """
    if link.loss == 0:
        raise Refused(link)
    # For its error alone.
    sight_rows(link, MOST_SIGHTS)
    walk = LotWalk(link)
    pairs = [(lot, page) for lot, page in walk.late_pairs() if walk.sizes[lot] > 1]
    places = {pair: place for place, pair in enumerate(pairs)}
    behind = []
    while len(behind) < len(pairs):
        if len(pairs) > most:
            raise TooGreat(most)
        lot, page = pairs[len(behind)]
        nexts = []
        for then, states in walk.lots_behind(lot, page, link.loss).items():
            if walk.sizes[states] > 1:
                if (states, then) not in places:
                    places[states, then] = len(pairs)
                    pairs.append((states, then))
                nexts.append(places[states, then])
        behind.append(nexts)
    return ([walk.pages[page] for _, page in pairs], behind)


def _pages_until_sure(behind):
    """By pair, behind how many pages at the most a late one is sure; None if it need never be."""
    counts = [None] * len(behind)
    # In this order a pair stands behind all those to which it leads, unless these lead back to it.
    for place in left_order(behind):
        later = [counts[then] for then in behind[place]]
        if None not in later:
            counts[place] = 1 + max(later, default=0)
    return counts


def _endless_path(behind, counts):
    """The places of pairs, one behind another, such that one of them can come behind the last one; and which one."""
    # Pairs that late ones begin with come first, and all others are led to by such ones.
    place = counts.index(None)
    path = []
    steps = {}
    while place not in steps:
        steps[place] = len(path)
        path.append(place)
        endless = [then for then in behind[place] if counts[then] is None]
        # The sooner the path comes back, the shorter it is.
        place = ([then for then in endless if then in steps] + endless)[0]
    return (path, steps[place])

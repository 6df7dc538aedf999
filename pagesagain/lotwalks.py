"""Lots that are led on from page to page, by all rows of deeds at once."""

from pagesagain.pages import page_later
from pagesagain.windows import states_ahead


class LotWalk:
    """The pages of a link by number, as they are met, and its lots as numbers with a bit for each state."""

    def __init__(self, link):
        states = link.machine.states
        self.link = link
        self.pages = []
        self.sizes = [len(_states_of(bits, states)) for bits in range(1 << states)]
        # By deed and lot the lot one deed later.
        self.images = [[lot_of([table[state] for state in _states_of(bits, states)]) for bits in range(1 << states)]
                       for table in link.machine.tables]
        self.numbers = {}
        self.nexts = []

    def number(self, page):
        """The page's number."""
        if page not in self.numbers:
            self.numbers[page] = len(self.pages)
            self.pages.append(page)
            self.nexts.append(None)
        return self.numbers[page]

    def next_pages(self, page):
        """By deed the number of the page one deed behind that of a number."""
        if self.nexts[page] is None:
            told = self.pages[page]
            later = [page_later(self.link, told, (deed,)) for deed in range(self.link.machine.deeds)]
            self.nexts[page] = [self.number(then) for then in later]
        return self.nexts[page]

    def lots_behind(self, lot, page, loss):
        """By page sent a deed or more, at most so many, behind one, the lot of whoever hears it then."""
        lots = {page: lot}
        later = {}
        layer = {page: lot}
        for _ in range(loss):
            fresh = {}
            for here, states in layer.items():
                for then, image in zip(self.next_pages(here), self.images):
                    fresh[then] = fresh.get(then, 0) | image[states]
            for then, states in fresh.items():
                # Whoever hears it does not know after how many deeds it was sent, none at all among them.
                lots[then] = lots.get(then, 0) | states
                later[then] = True
            layer = fresh
        return {then: lots[then] for then in later}

    def late_pairs(self):
        """The lot of whoever comes late, and the page, for each page with as many deeds as the length."""
        link = self.link
        pairs = []
        for number, states in enumerate(states_ahead(link.machine, link.first, link.modulus)):
            layer = [(lot_of(states), ())]
            for _ in range(link.length):
                layer = [(image[lot], deeds + (deed,)) for lot, deeds in layer
                         for deed, image in enumerate(self.images)]
            ahead = (number + link.length) % link.modulus
            pairs.extend([(lot, self.number((deeds, ahead))) for lot, deeds in layer])
        return pairs


def lot_of(states):
    """The lot of the states."""
    bits = 0
    for state in states:
        bits = bits | (1 << state)
    return bits


def _states_of(lot, many):
    """The ascending states of a lot, of so many states."""
    return [state for state in range(many) if (lot >> state) & 1 == 1]

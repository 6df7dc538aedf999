"""The wire: senders that do deeds, and receivers that hear pages."""

from pagesagain.errors import Refused
from pagesagain.machines import need_deed
from pagesagain.pages import check_page, page_later, sent_states, states_left


class Sender:
    """Does deeds from the link's first state on."""

    def __init__(self, link):
        self.link = link
        self.state = link.first
        self.done = 0
        self.page = ((), 0)

    def do(self, deed):
        """Does a deed: the state behind it."""
        need_deed(self.link.machine, deed)
        self.state = self.link.machine.tables[deed][self.state]
        self.done = self.done + 1
        self.page = page_later(self.link, self.page, (deed,))
        return self.state


class Receiver:
    """Hears pages, and keeps the states in which the sender may have been when it sent the last one."""

    def __init__(self, link, *, late=False):
        if not isinstance(late, bool):
            raise Refused(late)
        self.link = link
        self.lot = () if late else (link.first,)
        self.page = None if late else ((), 0)
        self.heard = 0

    def hear(self, page):
        """Hears a page: the lot behind it."""
        told = check_page(self.link, page)
        if self.page is None:
            lot = sent_states(self.link, told)
        else:
            lot = states_left(self.link, self.lot, self.page, told, self.link.loss)
        if not lot:
            raise Refused(page)
        self.lot = lot
        self.page = told
        self.heard = self.heard + 1
        return lot

    def sure(self):
        """The only state of the lot; None if there are several or none."""
        return self.lot[0] if len(self.lot) == 1 else None

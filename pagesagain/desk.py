"""A desk: a sender and a receiver, led by lines of text."""

from pagesagain.court import is_right, least_length
from pagesagain.errors import Refused
from pagesagain.papers import claims_of
from pagesagain.texts import numbers_text, page_text, read_link, read_number
from pagesagain.wire import Receiver, Sender

UNKNOWN = "?"
NOTHING = "none"


class Desk:
    """Answers lines about a link, its sender and its receiver."""

    def __init__(self, text):
        self.link = read_link(text)
        self.sender = Sender(self.link)
        self.receiver = Receiver(self.link)

    def say(self, line):
        """The answer to any value."""
        if not isinstance(line, str):
            return UNKNOWN
        word, *rest = line.split(" ")
        if word == "do":
            return self._do(rest)
        if line == "send":
            return self._send()
        if line == "lose":
            return f"lost {self._page()}"
        if line == "page":
            return self._page()
        if line == "late":
            self.receiver = Receiver(self.link, late=True)
            return "late"
        if line == "state":
            return f"state {self.sender.state} done {self.sender.done}"
        return self._judge(line)

    def _do(self, words):
        """Does the deeds that the words tell, if each of them tells one."""
        deeds = [read_number(word, self.link.machine.deeds) for word in words]
        if not deeds or None in deeds:
            return UNKNOWN
        for deed in deeds:
            self.sender.do(deed)
        return f"state {self.sender.state}"

    def _send(self):
        """Lets the receiver hear the sender's page; a new one that comes late, if it cannot be heard so."""
        page = self.sender.page
        try:
            return f"lot {numbers_text(self.receiver.hear(page))}"
        except Refused:
            self.receiver = Receiver(self.link, late=True)
            return f"anew lot {numbers_text(self.receiver.hear(page))}"

    def _page(self):
        """The text of the sender's page."""
        return page_text(self.link, self.sender.page)

    def _judge(self, line):
        """The answer to a line that asks about the link alone."""
        link = self.link
        if line == "right":
            return "yes" if is_right(link) else "no"
        if line == "least":
            length = least_length(link.machine, link.first, link.loss, link.modulus)
            return NOTHING if length is None else str(length)
        if line == "why":
            return " ".join(claims_of(link)) or NOTHING
        return UNKNOWN

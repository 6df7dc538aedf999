"""[49], [50]: a desk, each of its lines, and texts and lines that are none."""

import itertools
import random
import unittest

from pagesagain.court import is_right, least_length
from pagesagain.desk import Desk
from pagesagain.errors import BadText, TooGreat
from pagesagain.machines import Machine, led
from pagesagain.pages import Link, sent_states
from pagesagain.papers import claims_of
from pagesagain.texts import link_text, page_text, read_link
from pagesagain.wire import Receiver, Sender
from tests.helper import (ANY, GREAT, HOUR, LIFT, NO_INTEGERS, NO_SEQUENCES, STAIRS, SWITCH, WORN, Case, led_on,
                          rows_of, told_page)
from tests.test_court import LINKS
from tests.test_lots import CELL
from tests.test_sights import JUST

SOME = LINKS[::11] + [Link(CELL, 0, 1, 1), Link(LIFT, 3, 2, 2, 2), Link(HOUR, 0, 0, 4, 3), Link(SWITCH, 1, 3, 2),
                      Link(STAIRS, 2, 2, 3), Link(WORN, 0, 2, 0)]
SINGLE = ("send", "lose", "page", "late", "state", "right", "least", "why")


def standing(desk):
    """All that a desk is."""
    sender, receiver = desk.sender, desk.receiver
    return (link_text(desk.link), sender.state, sender.done, sender.page, receiver.lot, receiver.page, receiver.heard)


class Walk:
    """By an own walk what a desk must answer."""

    def __init__(self, link):
        self.link, self.row, self.lot, self.last, self.heard = link, (), {link.first}, ((), 0), 0

    def state(self):
        return led(self.link.machine, self.link.first, self.row)

    def say(self, line):
        words = line.split(" ")
        page = told_page(self.link, self.row)
        text = (" ".join(map(str, page[0])) or "-") + ":" + str(page[1])
        if words[0] == "do":
            self.row += tuple(map(int, words[1:]))
            return f"state {self.state()}"
        if line == "send":
            return self.send(page)
        if line == "late":
            self.lot, self.last, self.heard = set(), None, 0
        return {"lose": "lost " + text, "page": text, "late": "late",
                "state": f"state {self.state()} done {len(self.row)}"}[line]

    def send(self, page):
        left, anew = None, ""
        if self.last is not None:
            left = led_on(self.link, self.lot, self.last, self.link.loss).get(page)
            anew = "" if left else "anew "
        if not left:
            left, self.heard = sent_states(self.link, page), 0
        self.lot, self.last, self.heard = set(left), page, self.heard + 1
        return anew + "lot " + " ".join(map(str, sorted(left)))

    def standing(self):
        return (link_text(self.link), self.state(), len(self.row), told_page(self.link, self.row),
                tuple(sorted(self.lot)), self.last, self.heard)


class Lines(Case):
    def test_runs_of_lines(self):
        chance = random.Random(50)
        met = set()
        for link, _ in itertools.product(SOME, range(8)):
            desk, walk = Desk(link_text(link)), Walk(link)
            for _ in range(20):
                deeds = [str(chance.randrange(link.machine.deeds)) for _ in range(chance.choice((1, 1, 1, 2, 3)))]
                line = chance.choice(("do " + " ".join(deeds),) * 4 + ("send", "send", "send", "lose", "page", "late",
                                                                        "state"))
                answer = desk.say(line)
                met.add(answer.split(" ")[0])
                self.same(answer, walk.say(line))
                self.same(standing(desk), walk.standing())
        self.assertLessEqual({"anew", "lot", "state", "lost", "late"}, met)

    def test_what_asks_about_the_link(self):
        met = set()
        for link in SOME + LINKS[1::7]:
            desk = Desk(link_text(link))
            before = standing(desk)
            least = least_length(link.machine, link.first, link.loss, link.modulus)
            expected = ["yes" if is_right(link) else "no", "none" if least is None else str(least),
                        " ".join(claims_of(link)) or "none"]
            self.same([desk.say(line) for line in ("right", "least", "why")], expected)
            self.same(standing(desk), before)
            met |= set(expected)
        self.assertLessEqual({"yes", "no", "none", "0", "1", "2", "nowhere unhealed", "wrong never nowhere unhealed"},
                             met)

    def test_attributes(self):
        for link in SOME:
            desk = Desk(text=link_text(link))
            self.assertTrue(desk.link == link)
            self.assertIs(type(desk.sender), Sender)
            self.assertIs(type(desk.receiver), Receiver)
            self.assertTrue(desk.sender.link == link and desk.receiver.link == link)
            self.same(standing(desk)[1:], (link.first, 0, ((), 0), (link.first,), ((), 0), 0))
        self.assertFalse(any(desk == value for value in NO_INTEGERS + NO_SEQUENCES + [Desk(link_text(SOME[-1]))]))

    def test_the_receiver_begins_anew(self):
        desk = Desk("states 3\n1 2 0\n0 0 0\nlink 0 2 1 1")
        self.same([desk.say(line) for line in ("do 0", "send", "do 1 1", "send", "do 1", "send", "do 0 0", "send")],
                  ["state 1", "lot 1", "state 0", "anew lot 0", "state 0", "lot 0", "state 2", "anew lot 0 1 2"])
        self.same(standing(desk)[1:], (2, 6, ((0, 0), 0), (0, 1, 2), ((0, 0), 0), 1))
        self.same((desk.say(line="late"), desk.receiver.lot, desk.receiver.page, desk.receiver.heard),
                  ("late", (), None, 0))
        # One that came late and heard nothing hears any page.
        self.same((desk.say("send"), desk.receiver.heard), ("lot 0 1 2", 1))

    def test_sent_pages_and_lost_ones(self):
        desk = Desk("states 2\n1 0\nlink 0 2 1 3")
        lines = ("page", "lose", "send", "do 0", "page", "lose", "send", "do 0 0 0", "page")
        self.same([desk.say(line) for line in lines],
                  ["-:0", "lost -:0", "lot 0", "state 1", "0:1", "lost 0:1", "lot 1", "state 0", "0 0:1"])
        self.same((desk.receiver.heard, desk.receiver.page), (2, ((0,), 1)))

    def test_long_lines(self):
        desk = Desk(link_text(Link(WORN, 0, 12, 8, 9)))
        row = [1, 0, 0, 1, 0] * 80
        self.same(desk.say("do " + " ".join(map(str, row[:399]))), f"state {led(WORN, 0, row[:399])}")
        self.same(desk.say("state"), f"state {led(WORN, 0, row[:399])} done 399")
        self.same(desk.say("page"), page_text(desk.link, (tuple(row[387:399]), 3)))

    def test_deeds_done_one_behind_another(self):
        for row in rows_of(2, 4):
            one, other = Desk(link_text(Link(WORN, 2, 3, 2, 5))), Desk(link_text(Link(WORN, 2, 3, 2, 5)))
            for deed in row:
                last = one.say(f"do {deed}")
            self.same(other.say("do " + " ".join(map(str, row))), last)
            self.same(standing(one), standing(other))


class NoLines(Case):
    def test_they_change_nothing(self):
        lines = ["", " ", "\n", "do", "do ", "do  0", "do 0 ", " do 0", "do 0  1", "do 2", "do 0 2", "do 0 1 -1",
                 "do 00", "do 01", "do +0", "do -0", "do -", "do a", "do 0\n", "do 0,1", "do\t0", "do0", "Do 0", "DO 0",
                 "do 1.0", "do \u0660", "do 0 do 1", "do True", "0", "-", "?", "none", "sure", "hear", "lot", "lost",
                 "anew", "do " + "0 " * 398 + "2", "do 4", "do 10"]
        lines += [change for word in SINGLE
                  for change in (word + " ", " " + word, word + "\n", word + " 0", word.upper(), word + word, word[1:],
                                 word[:-1], word + "\t", word.title(), word + " " + word)]
        values = lines + ANY + [["do", "0"], ("send",), ["send"], b"send", 1.5]
        for link in (Link(WORN, 0, 2, 1), Link(SWITCH, 0, 0, 0)):
            desk = Desk(link_text(link))
            for line in ("do 0", "send", "do 0"):
                desk.say(line)
            before, sender, receiver = standing(desk), desk.sender, desk.receiver
            for value in values:
                self.same(desk.say(value), "?")
                self.same(desk.say(line=value), "?")
                self.same(standing(desk), before)
                self.assertIs(desk.sender, sender)
                self.assertIs(desk.receiver, receiver)

    def test_no_deed_is_done(self):
        desk = Desk("states 2\n1 0\n0 0\nlink 1 1 1 1")
        self.same([desk.say(line) for line in ("do 0 0 1 2", "do 1 x", "state", "do 1", "state")],
                  ["?", "?", "state 1 done 0", "state 0", "state 0 done 1"])


class Texts(Case):
    def test_bent_texts_as_read_link_tells(self):
        text = link_text(Link(WORN, 1, 2, 3, 4))
        texts = ["", " ", "\n", text + "\n", "\n" + text, text + " ", " " + text, text.upper(), text[:-1], text[1:],
                 text.replace("link", "Link"), text.replace("\n", "\r\n"), text + "\n" + text]
        lines = text.split("\n")
        for at in range(len(lines)):
            longer = lines[:at] + [lines[at] + " 0"] + lines[at + 1:]
            for those in (lines[:at], lines[:at] + lines[at + 1:], lines[:at + 1] + lines[at:], longer):
                texts.append("\n".join(those))
        texts += [text[:at] + sign + text[at + 1:] for at in range(len(text)) for sign in "9 -\nx"]
        refused = 0
        for value in texts:
            try:
                link = read_link(value)
            except BadText as error:
                refused += 1
                self.refuses(BadText, error.at, Desk, value)
            else:
                self.assertTrue(Desk(value).link == link)
        self.assertGreater(refused, 100)

    def test_no_texts(self):
        for value in ANY + [b"states 1", ["states 1"]]:
            if not isinstance(value, str):
                self.refuses(BadText, 0, Desk, value)
                self.refuses(BadText, 0, Desk, text=value)


class TooMuch(Case):
    def test_right_least_and_why(self):
        for many, link in JUST:
            desk = Desk(link_text(link))
            before = standing(desk)
            if many > 4000:
                self.refuses(TooGreat, 4000, desk.say, "right")
                self.refuses(TooGreat, 4000, desk.say, "why")
            self.same(standing(desk), before)
        desk = Desk(link_text(Link(Machine([(1, 2, 3, 4, 5, 6, 7, 0)] * 4), 0, 12, 8)))
        for line in ("right", "least", "why"):
            # With more than 4,000 rows of as many deeds as can be lost there are more sights, whatever the length is.
            self.refuses(TooGreat, 4000, desk.say, line)
        self.same((desk.say("do 3"), desk.say("send"), desk.say("state")), ("state 1", "lot 1", "state 1 done 1"))
        great = Desk(link_text(Link(GREAT, 0, 12, 8, 9)))
        self.refuses(TooGreat, 4000, great.say, "right")
        self.refuses(TooGreat, 4000, great.say, "why")

    def test_least_where_the_search_is_small(self):
        self.same(Desk(link_text(Link(Machine([(1, 0), (1, 0)]), 0, 12, 1))).say("least"), "none")
        self.same(Desk(link_text(Link(WORN, 0, 12, 0, 9))).say("least"), "0")


if __name__ == "__main__":
    unittest.main()

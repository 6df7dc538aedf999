"""[46] to [48]: what any value claims of a link, and all papers of a link."""

import itertools
import unittest

from pagesagain.court import court_paper, is_right, runs_hold
from pagesagain.errors import TooGreat
from pagesagain.healing import heal_holds, heal_paper
from pagesagain.machines import Machine
from pagesagain.pages import Link
from pagesagain.papers import all_papers, claim_of, claims_of
from pagesagain.turning import turn_holds, turn_paper
from pagesagain.windows import least_window, window_holds, window_paper
from tests.helper import (ANY, GREAT, HOUR, LIFT, NO_ROWS, ONE, STAIRS, SWITCH, Case, bent, machines_of, rows_to)
from tests.test_court import LINKS
from tests.test_healing import SLOW
from tests.test_lots import CELL
from tests.test_sights import JUST

WORDS = {"runs": "wrong", "turn": "never", "rows": "far", "round": "nowhere", "ring": "unhealed"}
SOME = (LINKS[::2] + SLOW + [Link(machine, 0, length, loss, modulus)
                             for machine in machines_of(4, 2)[11::6007] + [LIFT, HOUR, CELL, ONE]
                             for length, loss, modulus in ((0, 1, 1), (2, 1, 1), (1, 3, 1), (3, 2, 2), (2, 0, 1))])


def told_papers(link):
    """Each kind, as it is told by itself."""
    machine, first = link.machine, link.first
    papers = [court_paper(link), turn_paper(machine, first, link.loss, link.modulus),
              window_paper(machine, first, link.length, link.modulus)]
    if link.loss > 0:
        papers.append(heal_paper(link))
    return tuple(paper for paper in papers if paper is not None)


def shown(link, value):
    """What the value shows, by the word of each kind of paper that holds it."""
    machine, first, loss, modulus = link.machine, link.first, link.loss, link.modulus
    held = [word for word, holds in (
        ("wrong", runs_hold(link, value)), ("never", turn_holds(machine, first, loss, modulus, value)),
        ("far", window_holds(machine, first, link.length, modulus, value) and value[0] == "rows"),
        ("nowhere", window_holds(machine, first, link.length, modulus, value) and value[0] == "round"),
        ("unhealed", heal_holds(link, value))) if holds]
    assert len(held) < 2
    return held[0] if held else None


class AllPapers(Case):
    def test_as_they_are_told_in_their_order(self):
        met = set()
        for link in SOME:
            papers = told_papers(link)
            claims = tuple(WORDS[paper[0]] for paper in papers)
            met.add(claims)
            self.same((all_papers(link), claims_of(link)), (papers, claims))
            self.same((all_papers(link=link), claims_of(link=link)), (papers, claims))
            for paper, claim in zip(papers, claims):
                self.same(claim_of(link, paper), claim)
                self.same(claim_of(value=list(paper), link=link), claim)
        self.assertLessEqual({(), ("far",), ("nowhere",), ("nowhere", "unhealed"), ("wrong", "far", "unhealed"),
                              ("wrong", "nowhere", "unhealed"), ("wrong", "never", "nowhere", "unhealed")}, met)

    def test_no_losses_and_one_state(self):
        self.same((all_papers(Link(ONE, 0, 0, 8)), claims_of(Link(ONE, 0, 0, 0, 9))), ((), ()))
        link = Link(SWITCH, 0, 0, 0)
        self.same(claims_of(link), ("nowhere",))
        self.same(all_papers(link), (window_paper(SWITCH, 0, 0),))

    def test_too_great_as_it_is_told_there(self):
        for many, link in JUST:
            if many > 4000:
                self.refuses(TooGreat, 4000, all_papers, link)
                self.refuses(TooGreat, 4000, claims_of, link)
        for loss in (0, 1):
            link = Link(Machine([(1, 0), (1, 0)]), 0, 12, loss)
            self.refuses(TooGreat, 4000, all_papers, link)
            self.refuses(TooGreat, 4000, claims_of, link=link)
        # As many sights as there may be, but perhaps more lots of late ones.
        link = JUST[1][1]
        try:
            papers = told_papers(link)
        except TooGreat:
            self.refuses(TooGreat, 4000, all_papers, link)
        else:
            self.same(all_papers(link), papers)

    def test_what_holds_between_the_claims(self):
        for link in SOME:
            claims = claims_of(link)
            self.assertTrue("wrong" in claims or "never" not in claims)
            self.assertEqual("wrong" in claims, not is_right(link))
            least = least_window(link.machine, link.first, link.modulus)
            self.assertEqual("nowhere" in claims, least is None)
            self.assertEqual("far" in claims, least is not None and least > link.length)
            if "far" not in claims and "nowhere" not in claims:
                self.same(claims, ())
            if "wrong" in claims:
                self.assertTrue("far" in claims or "nowhere" in claims)


class Claims(Case):
    def test_all_short_values(self):
        met = set()
        for link in (Link(SWITCH, 0, 1, 2), Link(STAIRS, 0, 1, 1), Link(LIFT, 0, 1, 2, 2), Link(CELL, 0, 1, 1)):
            rows = rows_to(link.machine.deeds, 2)
            pages = [(row, number) for row in rows for number in range(link.modulus)]
            values = [(word,) + chosen for word, many in (("runs", 3), ("turn", 2), ("rows", 2), ("round", 3))
                      for chosen in itertools.product(rows, repeat=many)]
            values += [("ring", page, done, 0) for page in pages for done in itertools.product(rows, repeat=1)]
            for value in values:
                claim = shown(link, value)
                met.add(claim)
                self.same(claim_of(link, value), claim)
        self.assertEqual(met, {None, "wrong", "never", "far", "nowhere", "unhealed"})

    def test_values_of_any_kind(self):
        link = Link(SWITCH, 0, 1, 2)
        for paper in told_papers(link):
            self.same(claim_of(link, paper), WORDS[paper[0]])
            for value in bent(paper) if paper[0] != "ring" else [("ring", row, row, 0) for row in NO_ROWS]:
                self.same(claim_of(link, value), shown(link, value))
            for word in list(WORDS) + ["harm", "pages"]:
                if word != paper[0]:
                    self.same(claim_of(link, (word,) + paper[1:]), shown(link, (word,) + paper[1:]))
        for value in ANY + ["wrong", ("wrong",), ("harm", (0,), ()), ("pages", (), (), (0,))]:
            self.same(claim_of(link, value), None)

    def test_whichever_word_would_be_told(self):
        # No length is a window, but this one is none, too.
        link = Link(LIFT, 0, 1, 1)
        self.same(claims_of(link)[-2:], ("nowhere", "unhealed"))
        self.same(claim_of(link, ("rows", (1, 1), (1,))), "far")

    def test_no_error_where_there_is_too_much(self):
        for link in (Link(Machine([(1, 0), (1, 0)]), 0, 12, 1), Link(GREAT, 0, 12, 8, 9), Link(SWITCH, 0, 0, 0)):
            for value in ANY + [("ring", ((), 0), [(0,)], 0)]:
                self.same(claim_of(link, value), None)
        link = Link(Machine([(1, 0), (1, 0)]), 0, 12, 1)
        self.same([claim_of(link, value) for value in (
            ("runs", (0,) * 12, (), (0,)), ("turn", [0] * 1000, [1]), ("rows", (0,) * 12, (0,) * 13),
            ("round", (), (1,), (0, 0)), ("ring", ((0,) * 12, 0), [(0,)], 0))],
            ["wrong", "never", "far", "nowhere", "unhealed"])


if __name__ == "__main__":
    unittest.main()

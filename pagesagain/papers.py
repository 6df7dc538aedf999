"""All papers of a link, and what they show of it."""

from pagesagain.court import court_paper, runs_hold
from pagesagain.healing import heal_holds, heal_paper
from pagesagain.turning import turn_holds, turn_paper
from pagesagain.windows import window_holds, window_paper

# By the word of a paper what it shows.
CLAIMS = {"runs": "wrong", "turn": "never", "rows": "far", "round": "nowhere", "ring": "unhealed"}


def claim_of(link, value):
    """What any value shows of the link, as a word; None if it shows nothing."""
    holds = (runs_hold(link, value)
             or turn_holds(link.machine, link.first, link.loss, link.modulus, value)
             or window_holds(link.machine, link.first, link.length, link.modulus, value)
             or heal_holds(link, value))
    return CLAIMS[value[0]] if holds else None


def all_papers(link):
    """The papers of the link that there are."""
    papers = [court_paper(link),
              turn_paper(link.machine, link.first, link.loss, link.modulus),
              window_paper(link.machine, link.first, link.length, link.modulus),
              heal_paper(link) if link.loss > 0 else None]
    return tuple([paper for paper in papers if paper is not None])


def claims_of(link):
    """What the papers of the link show of it, in their order."""
    return tuple([claim_of(link, paper) for paper in all_papers(link)])

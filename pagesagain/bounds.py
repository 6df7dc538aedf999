"""The bounds on what links are made of."""

from pagesagain.checks import need_number

LONGEST_PAGE = 12
MOST_LOSS = 8
MOST_MODULUS = 9


def need_length(value):
    """The length itself; Refused for any value that is no length of pages of a link."""
    return need_number(value, 0, LONGEST_PAGE)


def need_loss(value):
    """The loss itself; Refused for any value that is no bound on the losses of a link."""
    return need_number(value, 0, MOST_LOSS)


def need_modulus(value):
    """The modulus itself; Refused for any value by which no pages of a link number the deeds."""
    return need_number(value, 1, MOST_MODULUS)

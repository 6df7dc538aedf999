"""What numbers, sequences and papers are, asked of any value."""

from pagesagain.errors import Refused


def is_number(value, least, greatest=None):
    """Whether any value is an integer from the least to the greatest one, if there is a greatest one."""
    # A bool is an int to Python, but no integer here.
    if not isinstance(value, int) or isinstance(value, bool):
        return False
    return least <= value and (greatest is None or value <= greatest)


def need_number(value, least, greatest=None):
    """The number itself; Refused for any value that is none from the least to the greatest one."""
    if not is_number(value, least, greatest):
        raise Refused(value)
    return value


def is_sequence(value, fewest, most):
    """Whether any value is a list or a tuple of that many items."""
    return isinstance(value, (list, tuple)) and fewest <= len(value) <= most


def is_paper(value, word, many):
    """Whether any value is a sequence of so many items, of which the first one is the word."""
    return is_sequence(value, many, many) and isinstance(value[0], str) and value[0] == word

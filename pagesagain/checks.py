"""What numbers and sequences are, asked of any value."""


def is_number(value, least, greatest):
    """Whether any value is an integer from the least to the greatest one."""
    # A bool is an int to Python, but no integer here.
    return isinstance(value, int) and not isinstance(value, bool) and least <= value <= greatest


def is_sequence(value, fewest, most):
    """Whether any value is a list or a tuple of that many items."""
    return isinstance(value, (list, tuple)) and fewest <= len(value) <= most

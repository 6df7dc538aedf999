"""Powers of numbers."""


def power(base, many):
    """The product of so many times the base."""
    product = 1
    for _ in range(many):
        product = product * base
    return product

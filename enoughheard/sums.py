"""Sums of products."""


def products(factors, amounts):
    """The sum of the products of factors and amounts."""
    return sum([factor * amount for factor, amount in zip(factors, amounts)])


def weighted(vectors, factors, width):
    """The sum of the vectors, each times its factor."""
    total = [0] * width
    for vector, factor in zip(vectors, factors):
        total = [one + factor * other for one, other in zip(total, vector)]
    return total

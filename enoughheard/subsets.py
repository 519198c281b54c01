"""All subsets of some parts."""


def subsets(parts):
    """All subsets of ascending parts, as ascending tuples, ordered as tuples: () first."""
    found = [()]
    for part in parts:
        found = found + [one + (part,) for one in found]
    return sorted(found)

"""Choices of some of several things."""


def choices(items, size):
    """Return all tuples of so many of the items, which keep their order, in ascending order of places."""
    if size == 0:
        return [()]
    found = []
    for place, item in enumerate(items):
        found.extend([(item, *rest) for rest in choices(items[place + 1:], size - 1)])
    return found


def least_choices(items, fits):
    """Return all tuples, of the least size for which there is one, that fit; `fits` is a function."""
    for size in range(len(items) + 1):
        found = [choice for choice in choices(items, size) if fits(choice)]
        if found:
            return found
    return []

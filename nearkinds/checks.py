"""What may be asked of anything, whatever it is."""


def is_whole(thing):
    """Whether it is a whole number; Python counts truths as ints, the document does not."""
    return isinstance(thing, int) and not isinstance(thing, bool)


def is_whole_below(thing, limit):
    """Whether it is a whole number from 0 to one less than the limit."""
    return is_whole(thing) and 0 <= thing < limit


def is_wholes(thing, many):
    """Whether it is a tuple of so many whole numbers."""
    return isinstance(thing, tuple) and len(thing) == many and all([is_whole(part) for part in thing])


def is_wholes_below(thing, many, limit):
    """Whether it is a tuple of so many whole numbers from 0 to one less than the limit."""
    return is_wholes(thing, many) and all([0 <= part < limit for part in thing])

"""What may be asked of anything, whatever it is."""


def is_whole(thing):
    """Whether it is a whole number; Python counts truths as ints, the document does not."""
    return isinstance(thing, int) and not isinstance(thing, bool)


def is_whole_below(thing, limit):
    """Whether it is a whole number from 0 to one less than the limit."""
    return is_whole(thing) and 0 <= thing < limit


def is_wholes(thing, many):
    """Whether it is a tuple of so many whole numbers."""
    return isinstance(thing, tuple) and len(thing) == many and all([is_whole(part) for part in thing])


def is_wholes_below(thing, many, limit):
    """Whether it is a tuple of so many whole numbers from 0 to one less than the limit."""
    return is_wholes(thing, many) and all([0 <= part < limit for part in thing])


def is_whole_between(thing, least, greatest):
    """Whether it is a whole number from the least to the greatest."""
    return is_whole(thing) and least <= thing <= greatest


def is_rising(things):
    """Whether each is greater than the one ahead."""
    return all([one < other for one, other in zip(things, things[1:])])


def is_rising_wholes(thing, least, greatest):
    """Whether it is a rising tuple of whole numbers from the least to the greatest, perhaps ()."""
    if not isinstance(thing, tuple):
        return False
    return all([is_whole_between(part, least, greatest) for part in thing]) and is_rising(thing)

"""Of what kind a thing is, whatever it is."""


def is_whole(thing):
    """Whether it is a whole number."""
    # Python counts truths among its ints, the document doesn't
    return isinstance(thing, int) and not isinstance(thing, bool)


def is_tuple_of(thing, size):
    """Whether it is a tuple of so many parts."""
    return isinstance(thing, tuple) and len(thing) == size


def is_numbers(thing, size):
    """Whether it is a tuple of so many whole numbers."""
    return is_tuple_of(thing, size) and all([is_whole(number) for number in thing])

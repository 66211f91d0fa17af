"""What things are: integers and tuples of them. Each function judges its last argument, whatever it is."""


def is_integer(thing):
    """Whether it is an int that is not a bool."""
    return isinstance(thing, int) and not isinstance(thing, bool)


def is_from(low, thing):
    """Whether it is an integer from low on."""
    return is_integer(thing) and low <= thing


def is_between(low, high, thing):
    """Whether it is an integer from low to high, both of them let."""
    return is_integer(thing) and low <= thing <= high


def is_tuple(many, thing):
    """Whether it is a tuple of so many."""
    return isinstance(thing, tuple) and len(thing) == many


def is_pair(thing):
    """Whether it is a tuple of two."""
    return is_tuple(2, thing)


def are_integers(many, thing):
    """Whether it is a tuple of so many integers."""
    return is_tuple(many, thing) and all([is_integer(one) for one in thing])


def are_between(many, low, high, thing):
    """Whether it is a tuple of so many integers from low to high."""
    return are_integers(many, thing) and all([low <= one <= high for one in thing])

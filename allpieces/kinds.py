"""Forms: what a value is by itself, or among some houses. Each takes any value as thing."""


def is_integer(thing):
    """Return whether it is an int that is not a bool."""
    return isinstance(thing, int) and not isinstance(thing, bool)


def is_number(thing):
    """Return whether it is an integer that is at least 0."""
    return is_integer(thing) and thing >= 0


def is_pair(thing):
    """Return whether it is a tuple of two values."""
    return isinstance(thing, tuple) and len(thing) == 2


def is_triple(thing):
    """Return whether it is a tuple of three values."""
    return isinstance(thing, tuple) and len(thing) == 3


def is_ascending(values):
    """Return whether each value of a tuple is less than the next one; they have to be of one kind."""
    return all([low < high for low, high in zip(values, values[1:])])


def is_name(thing):
    """Return whether it is a string of one to eight lowercase letters."""
    if not isinstance(thing, str) or not 1 <= len(thing) <= 8:
        return False
    return all(["a" <= letter <= "z" for letter in thing])


def is_name_pair(thing):
    """Return whether it is a pair of names, perhaps twice the same."""
    return is_pair(thing) and is_name(thing[0]) and is_name(thing[1])


def is_houses(thing):
    """Return whether it is a set of one or more names."""
    if not isinstance(thing, tuple) or not thing:
        return False
    return all([is_name(name) for name in thing]) and is_ascending(thing)


def is_wire(thing):
    """Return whether it is a pair of two different names."""
    return is_name_pair(thing) and thing[0] != thing[1]


def is_given(thing):
    """Return whether it is a tuple of integers from -1 on."""
    return isinstance(thing, tuple) and all([is_integer(given) and given >= -1 for given in thing])


def is_set_among(thing, houses):
    """Return whether it is a nonempty set of some of the houses, which are a tuple or a dict."""
    return is_houses(thing) and all([house in houses for house in thing])


def is_wire_among(thing, houses):
    """Return whether it is a pair of two different ones of the houses, which are a tuple or a dict."""
    return is_wire(thing) and thing[0] in houses and thing[1] in houses

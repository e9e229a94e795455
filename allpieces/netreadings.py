"""Nets, holders and givings read from texts."""

from allpieces.errors import InvalidText, NotUsable
from allpieces.kinds import is_houses, is_name

MOST_DIGITS = 60


def net_read(text):
    """Return the net that a string writes; InvalidText for any other string."""
    _need_text(text)
    head, *lines = text.split("\n")
    houses = _houses_read(head)
    wires = [_wire_read(line, k, houses) for k, line in enumerate(lines, start=1)]
    return (houses, tuple(wires))


def holders_read(text):
    """Return the tuple of sets of names that a string writes; InvalidText for any other string."""
    return tuple([_set_read(word, k) for k, word in enumerate(_words_read(text, "-"))])


def giving_read(text):
    """Return the giving by form that a string writes; InvalidText for any other string."""
    return tuple([_given_read(word, k) for k, word in enumerate(_words_read(text, "none"))])


def is_decimal(word):
    """Return whether a string is a number as it is written, with at most sixty digits."""
    if not all(["0" <= digit <= "9" for digit in word]):
        return False
    return word == "0" or (1 <= len(word) <= MOST_DIGITS and word[0] != "0")


def _need_text(text):
    """Refuse any value that is no string."""
    if not isinstance(text, str):
        raise NotUsable("text", -1)


def _houses_read(line):
    """Return the houses that the first line of a net writes."""
    words = line.split(" ")
    if words[0] != "houses":
        raise InvalidText(0, 0)
    houses = words[1:]
    for field, (last, name) in enumerate(zip(["", *houses], houses), start=1):
        if not is_name(name) or name <= last:
            raise InvalidText(0, field)
    if not houses:
        raise InvalidText(0, 1)
    return tuple(houses)


def _wire_read(line, at, houses):
    """Return the wire that this line of a net writes."""
    source, *rest = line.split(" ")
    if source not in houses:
        raise InvalidText(at, 0)
    if not rest or rest[0] == source or rest[0] not in houses:
        raise InvalidText(at, 1)
    if len(rest) > 1:
        raise InvalidText(at, 2)
    return (source, rest[0])


def _words_read(text, nothing):
    """Return a list of the words of a string, none if it is the one word that stands for nothing."""
    _need_text(text)
    words = text.split(" ")
    if words[0] != nothing:
        return words
    if len(words) > 1:
        raise InvalidText(0, 1)
    return []


def _set_read(word, field):
    """Return the set of names that a word writes."""
    names = tuple(word.split(","))
    if not is_houses(names):
        raise InvalidText(0, field)
    return names


def _given_read(word, field):
    """Return what a word says that a wire is given."""
    if word == "-":
        return -1
    if not is_decimal(word):
        raise InvalidText(0, field)
    return int(word)

"""Small checks and tools that several modules share."""

from quorumdrift.errors import UnknownKey, UnlikeKeys

MOST_KEYS = 12
GREATEST_KEY = 9999
DIGITS = "0123456789"


def first_wrong_place(order):
    """The least index at which a list breaks the rule of replica lists, or None."""
    for place, key in enumerate(order):
        if place >= MOST_KEYS or key < 0 or key > GREATEST_KEY or key in order[:place]:
            return place
    return None


def check_known(all_keys, key):
    """Raise UnknownKey if the key is not one of the keys."""
    if key not in all_keys:
        raise UnknownKey(key)


def check_pairs_known(all_keys, pairs):
    """Raise UnknownKey for the first key in the pairs that is not one of the keys."""
    for x, y in pairs:
        check_known(all_keys, x)
        check_known(all_keys, y)


def check_like_keys(first, second):
    """Raise UnlikeKeys with the least key that only one of two lists has."""
    unlike = sorted(set(first) ^ set(second))
    if unlike:
        raise UnlikeKeys(unlike[0])


def pairs_in(order):
    """The tuples (x, y) with x before y in the list."""
    return [(x, y) for place, x in enumerate(order) for y in order[place + 1:]]


def triples_in(order):
    """The tuples (x, y, z) with x before y before z in the list."""
    return [(x, y, z) for place, x in enumerate(order) for y, z in pairs_in(order[place + 1:])]


def number_in(word):
    """The number from 0 to 9999 that a word writes in digits without a leading zero, or None."""
    # A long word is refused before it is converted: Python limits the digits that it converts.
    if word == "" or len(word) > len(str(GREATEST_KEY)):
        return None
    if any([sign not in DIGITS for sign in word]):
        return None
    if word[0] == "0" and word != "0":
        return None
    return int(word)

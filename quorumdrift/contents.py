"""What all kinds of contents have: keys, and places at which their word is on or off."""

from quorumdrift.basics import first_wrong_place
from quorumdrift.errors import InvalidContents, UnknownPlace

MOST_HELD = 8


class Contents:
    """The keys of contents of any kind."""

    def __init__(self, all_keys):
        if not is_list_of_keys(all_keys):
            raise InvalidContents()
        self._all_keys = sorted(all_keys)

    def all_keys(self):
        """The keys, ascending."""
        return list(self._all_keys)

    def label(self):
        """The number of keys in words."""
        return f"{len(self._all_keys)} keys"


def is_list_of_keys(given):
    """True if a value of whatever kind is a list of at most 8 distinct keys."""
    if not isinstance(given, list) or len(given) > MOST_HELD:
        return False
    # True and False are no keys, though Python counts them among the integers.
    if any([isinstance(key, bool) or not isinstance(key, int) for key in given]):
        return False
    return first_wrong_place(given) is None


def check_places(places, given):
    """Raise UnknownPlace for the first given tuple that is not one of the places."""
    for place in given:
        if place not in places:
            raise UnknownPlace(place)

"""Deeds of a cluster, tuples that begin with a word, and their lines of text."""

from quorumdrift.basics import number_in
from quorumdrift.errors import InvalidLine
from quorumdrift.states import State

REWRITE = "rewrite"
BECOME = "become"
# How many numbers stand behind the word of each other deed.
NUMBERS = {"swap": 2, "move": 4, "settle": 0, "add": 4, "drop": 1}


def deed_line(deed):
    """The line of a deed."""
    word = deed[0]
    told = [deed[1]] + list(deed[2]) if word == REWRITE else list(deed[1:])
    return " ".join([word] + [str(part) for part in told])


def parse_deeds(text):
    """The deeds of the lines of a text."""
    if text == "":
        return []
    deeds = [deed_in(line) for line in text.split("\n")]
    if None in deeds:
        raise InvalidLine(deeds.index(None) + 1)
    return deeds


def deed_in(line):
    """The deed whose line this is, or None."""
    word, blank, rest = line.partition(" ")
    if word == BECOME:
        return (BECOME, rest) if is_state_text(rest) else None
    numbers = [number_in(part) for part in rest.split(" ")] if blank else []
    if None in numbers:
        return None
    if word == REWRITE and numbers:
        return (REWRITE, numbers[0], tuple(numbers[1:]))
    if word in NUMBERS and len(numbers) == NUMBERS[word]:
        return (word, *numbers)
    return None


def is_state_text(text):
    """True if this is the text of a state."""
    try:
        State.read(text)
    except InvalidLine:
        return False
    return True

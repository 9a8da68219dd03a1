"""Point 35's words once more, over three tuples of places that are on, and Trios to try them on."""

import random
from functools import lru_cache
from itertools import product

from quorumdrift.trios import Trio
from tests.kinds import FIVE_KINDS, conflicts_of, contents_of, next_words

THREE = (9, 1, 4)
FOUR = (9, 1, 20, 4)


@lru_cache(maxsize=None)
def every(place, keys):
    """All contents of the keys, of the kind at this place of FIVE_KINDS, each under its words."""
    return contents_of(FIVE_KINDS[place], list(keys))


@lru_cache(maxsize=None)
def neighbours(place, keys):
    """For each words of this kind those that are one basic change away."""
    return next_words(FIVE_KINDS[place], list(keys))


class Case:
    """A Trio, and the three tuples of words that it was made of."""

    def __init__(self, place, keys, words):
        self.place, self.keys, self.words = place, keys, words
        self.kind = FIVE_KINDS[place]
        self.places = self.kind.places(keys)

    def trio(self):
        return Trio(*[self.contents(words) for words in self.words])

    def contents(self, words):
        return every(self.place, self.keys)[words]

    def reading(self):
        return [place for place in self.places if [place in words for words in self.words].count(True) >= 2]

    def conflicts(self):
        return conflicts_of(self.kind, list(self.keys), self.reading())

    def pinned(self):
        return sorted({place for conflict in self.conflicts() for place in conflict})

    def dissenters(self, place):
        read = place in self.reading()
        return [replica for replica, words in enumerate(self.words) if (place in words) != read]

    def dealing(self):
        return [(place, self.dissenters(place)[0]) for place in self.pinned()]

    def with_words(self, replica, words):
        return Case(self.place, self.keys, self.words[:replica] + (words,) + self.words[replica + 1:])

    def changes(self, replicas=(0, 1, 2)):
        """The basic changes of these replicas, ascending, as (replica, words, Case after it)."""
        found = []
        for replica in sorted(set(replicas)):
            for words in neighbours(self.place, self.keys)[self.words[replica]]:
                found.append((replica, words, self.with_words(replica, words)))
        return found

    def silent(self, replicas=(0, 1, 2)):
        return [change for change in self.changes(replicas) if change[2].reading() == self.reading()]

    def homeward(self, replicas=(0, 1, 2)):
        return [
            (replica, words, after) for replica, words, after in self.changes(replicas)
            if all(self.dissenters(place) == [replica] for place in set(words) ^ set(self.words[replica]))
        ]

    def home(self, seed, replicas=(0, 1, 2)):
        """The Case after homeward changes, in an order that the seed decides, until there are none."""
        chance = random.Random(seed)
        now, choices = self, self.homeward(replicas)
        while choices:
            now = chance.choice(choices)[2]
            choices = now.homeward(replicas)
        return now

    def spread(self, movers=(0, 1, 2)):
        """The words of all Trios to which silent basic changes of the movers lead."""
        found = {self.words}
        border = [self]
        while border:
            beyond = []
            for case in border:
                for _, _, after in case.silent(movers):
                    if after.words not in found:
                        found.add(after.words)
                        beyond.append(after)
            border = beyond
        return found

    def walked(self, many, seed, movers=(0, 1, 2)):
        """The Case after this many silent basic changes that the seed decides."""
        chance = random.Random(seed)
        now = self
        for _ in range(many):
            choices = now.silent(movers)
            now = chance.choice(choices)[2] if choices else now
        return now


def all_cases(keys, part=1):
    """All Trios of the keys of each kind; of a kind with many of them every part-th one."""
    found = []
    for place in range(len(FIVE_KINDS)):
        triples = list(product(every(place, keys), repeat=3))
        step = part if len(triples) > 600 else 1 + part // 8
        found += [Case(place, keys, words) for words in triples[::step]]
    return found


def some_cases(keys, many, seed):
    """This many Trios of each kind, that the seed decides."""
    chance = random.Random(seed)
    found = []
    for place in range(len(FIVE_KINDS)):
        words = list(every(place, keys))
        for _ in range(many):
            found.append(Case(place, keys, tuple(chance.choice(words) for _ in range(3))))
    return found


def some_cases_with_conflicts(keys, many, seed):
    """At most this many Trios of each kind that are read with a conflict."""
    found = {}
    for case in some_cases(keys, 40 * many, seed):
        if case.conflicts() and len(found.setdefault(case.place, [])) < many:
            found[case.place].append(case)
    return [case for cases in found.values() for case in cases]


FEW = all_cases((), 1) + all_cases((7,), 1) + all_cases((7, 2), 3)
THREES = all_cases(THREE, 41)
FOURS = some_cases(FOUR, 12, 1)
CONFLICTS = some_cases_with_conflicts(THREE, 12, 2) + some_cases_with_conflicts(FOUR, 6, 3)
CASES = FEW + THREES + FOURS + CONFLICTS

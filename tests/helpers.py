"""What several test files share."""

import random
import sys
import unittest


class DriftCase(unittest.TestCase):
    """A test case that checks errors by their exact class and all their attributes."""

    def assert_raises(self, error_class, attributes, action, *arguments, **named):
        with self.assertRaises(error_class) as caught:
            action(*arguments, **named)
        self.assertIs(type(caught.exception), error_class)
        self.assertEqual(vars(caught.exception), attributes)


class TooManySteps(Exception):
    """An action took more steps than a test allows."""


def within_steps(limit, action):
    """The result of an action; raises TooManySteps once it has gone through more lines of Python than that."""
    count = 0

    def trace(frame, event, argument):
        nonlocal count
        count += 1
        if count > limit:
            raise TooManySteps(limit)
        return trace

    before = sys.gettrace()
    sys.settrace(trace)
    try:
        return action()
    finally:
        sys.settrace(before)


def stands_before(order, x, y):
    """Whether x stands before y in a list."""
    return order.index(x) < order.index(y)


def shuffled(keys, seed):
    """The keys as a list in an order that the seed alone decides."""
    order = list(keys)
    random.Random(seed).shuffle(order)
    return order


def some_pairs(keys, many, seed):
    """A list of pairs of keys, perhaps with repeated ones and with (x, x)."""
    chance = random.Random(seed)
    return [(chance.choice(keys), chance.choice(keys)) for _ in range(many)]

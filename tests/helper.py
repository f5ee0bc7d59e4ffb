"""What the tests share: asking twice, and looking at what was handed in."""

import copy
import unittest

from evenmix import errors

REFUSALS = (
    "NoTable", "NoBottom", "NotAlike", "NoStep", "NoMix", "NotEven", "NoSwap",
    "NoBounds", "NoPlace", "NoSums", "TooGreat", "NoNumber", "NoText",
)

# Thirty figures, above and below 0.
GREAT = 10 ** 30 - 1
SMALL = -GREAT


def lists_in(thing, seen=None):
    """All lists within a thing, itself too, one entry for each place where one stands."""
    seen = [] if seen is None else seen
    if isinstance(thing, list):
        known = any(thing is other for other in seen)
        seen.append(thing)
        if known:
            return seen
    if isinstance(thing, (list, tuple)):
        for part in thing:
            lists_in(part, seen)
    return seen


def places_in(thing):
    return [id(each) for each in lists_in(thing)]


class MixCase(unittest.TestCase):
    def told(self, ask, *things):
        """The answer; on the way, what point 2 says of all functions is held."""
        words, places = repr(things), places_in(things)
        first = ask(*things)
        kept = copy.deepcopy(first)
        second = ask(*things)
        self.assertEqual(repr(things), words, "handed in, and changed")
        self.assertEqual(places_in(things), places, "handed in, and exchanged")
        self.assertEqual(repr(second), repr(kept))
        told = places_in(first) + places_in(second)
        self.assertEqual(len(told), len(set(told)), "a list was told in two places")
        self.assertFalse(set(told) & set(places), "what was handed in was told")
        for each in lists_in(first):
            each.append("changed by whoever asked")
        self.assertEqual(repr(second), repr(kept))
        self.assertEqual(repr(things), words)
        self.assertEqual(repr(ask(*things)), repr(kept))
        return kept

    def refused(self, name, ask, *things):
        words, places = repr(things), places_in(things)
        with self.assertRaises(ValueError, msg=words) as caught:
            ask(*things)
        self.assertIs(type(caught.exception), getattr(errors, name), words)
        self.assertIsInstance(caught.exception, errors.MixError)
        for other in REFUSALS:
            if other != name:
                self.assertNotIsInstance(caught.exception, getattr(errors, other))
        self.assertEqual(repr(things), words, "refused, and changed")
        self.assertEqual(places_in(things), places, "refused, and exchanged")

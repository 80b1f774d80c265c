"""Outcomes of sendings, and the longest sending."""

from strongbit.errors import NoOutcome
from strongbit.promises import outcome_at
from strongbit.reaches import Reach


def is_outcome(value):
    """Whether any value has the form of an outcome."""
    if not isinstance(value, tuple) or len(value) != 2:
        return False
    word, words = value
    return isinstance(word, str) and isinstance(words, tuple) and all([isinstance(heard, str) for heard in words])


def cheapest(reach):
    """For each outcome that is possible a standing that shows it and leaves the most wrong bits."""
    found = {}
    for standing in reach.over():
        outcome = outcome_at(standing)
        if outcome not in found or standing[0] > found[outcome][0]:
            found[outcome] = standing
    return found


def outcomes(end, wrong, *, silent=True, hearers=None):
    """Each possible outcome with its fewest wrong bits. Raises TooMany."""
    reach = Reach(end, wrong, silent, hearers)
    return {outcome: wrong - standing[0] for outcome, standing in cheapest(reach).items()}


def example(end, outcome, wrong, *, silent=True, hearers=None):
    """A sending with an outcome and the fewest wrong bits: (hearers, wrong, silent). Raises TooMany, then NoOutcome."""
    reach = Reach(end, wrong, silent, hearers)
    found = cheapest(reach)
    if not is_outcome(outcome) or outcome not in found:
        raise NoOutcome(outcome)
    return reach.sending_to(found[outcome])


def longest(end, wrong, *, silent=True, hearers=None):
    """The most bits that a sending has, None if one is endless. Raises TooMany."""
    reach = Reach(end, wrong, silent, hearers)
    heights = reach.heights()
    if heights is None:
        return None
    return max([heights[standing] for standing in reach.begins])

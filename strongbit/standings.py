"""Standings: moments of sendings for any number of stations, and the moves between them."""

from strongbit.errors import TooMany
from strongbit.machines import HEARER_WORDS, SENDER_WORDS, is_follower, is_number
from strongbit.steps import behind_wrong, fallen, mishearings, place_order, silences

# How many standings may come about.
MOST_STANDINGS = 5000

# The most that left and the length of hit are together in a standing of an end.
MOST_WRONG = 4


def starts(wrong, *, hearers=None):
    """The standings in which sendings with so many wrong bits start."""
    found = []
    for bodies in range(wrong + 1):
        left = wrong - bodies
        if hearers is None:
            others = list(range(left + 2))
        else:
            others = [min(hearers - bodies, left + 1)]
        for many in others:
            if many >= 0 and bodies + many >= 1:
                found.append((left, 0, None if many == 0 else 0, many, (1,) * bodies))
    return found


def is_over(standing):
    """Whether nobody in a standing has a row."""
    left, sender, crowd, many, hit = standing
    return not any([is_number(place) for place in (sender, crowd, *hit)])


def moves(end, standing, *, silent=True):
    """The standings to which the moves of a standing lead, none if it is over."""
    if is_over(standing):
        return []
    found = {}
    for falls in silences(standing, silent):
        remaining = fallen(standing, falls)
        for wrongs in mishearings(remaining):
            found[behind_wrong(end, remaining, wrongs)] = True
    return list(found)


def reached(end, wrong, silent, hearers):
    """The standings that can come about, each with the list of those to which its moves lead.

    They come in the order of the fewest bits behind which they can come about. Raises TooMany if there are too many.
    """
    found = {standing: [] for standing in starts(wrong, hearers=hearers)}
    ahead = list(found)
    at = 0
    while at < len(ahead):
        moved = moves(end, ahead[at], silent=silent)
        found[ahead[at]] = moved
        for standing in moved:
            if standing in found:
                continue
            if len(found) == MOST_STANDINGS:
                raise TooMany(MOST_STANDINGS)
            found[standing] = []
            ahead.append(standing)
        at += 1
    return found


def standings(end, wrong, *, silent=True, hearers=None):
    """All standings that can come about. Raises TooMany if there are too many."""
    return list(reached(end, wrong, silent, hearers))


def has_hearer_place(end, value):
    """Whether a value is a row or a word of the hearer's machine."""
    return is_follower(value, len(end.hearer), HEARER_WORDS)


def is_crowd(end, left, crowd, many):
    """Whether values are a crowd and how many it is."""
    if not is_number(many):
        return False
    if crowd is None:
        return many == 0
    if not has_hearer_place(end, crowd):
        return False
    return 1 <= many <= (left + 1 if is_number(crowd) else 1)


def is_hit(end, value):
    """Whether a value is a hit part: places of the hearer's machine in their order."""
    if not isinstance(value, tuple) or not all([has_hearer_place(end, place) for place in value]):
        return False
    return value == tuple(sorted(value, key=place_order))


def is_standing(end, thing):
    """Whether any value is a standing of an end."""
    if not isinstance(thing, tuple) or len(thing) != 5:
        return False
    left, sender, crowd, many, hit = thing
    if not is_number(left) or left < 0 or not is_hit(end, hit) or left + len(hit) > MOST_WRONG:
        return False
    is_sender = sender == "silent" or is_follower(sender, len(end.sender), SENDER_WORDS)
    return is_sender and is_crowd(end, left, crowd, many)

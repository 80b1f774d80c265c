"""Promises judged: whether an end keeps them, and histories that break them."""

from strongbit.errors import Endless, NoPromise, Unsound
from strongbit.promises import PROMISES, breaks, outcome_at
from strongbit.reaches import Reach
from strongbit.sendings import sending

CLEAN = ("send", (), ())


def is_sound(end):
    """Whether a sending with one hearer and without faults ends well."""
    try:
        return sending(end, 1).words == ("done", "taken")
    except Endless:
        return False


def check_judged(end, promise):
    """Raise NoPromise for any value that is no promise, then Unsound."""
    if promise not in PROMISES:
        raise NoPromise(promise)
    if not is_sound(end):
        raise Unsound()


def breaking_standing(reach, promise):
    """A standing at which a promise breaks or is bound to, with the fewest wrong bits, or None."""
    if promise == "rest":
        found = reach.ringing()
    else:
        found = [standing for standing in reach.over() if breaks(promise, outcome_at(standing), reach.silent)]
    return max(found, key=lambda standing: standing[0]) if found else None


def breaking_deeds(promise, word, wrong, silent):
    """The deeds by which a promise breaks: a sending with these faults, that gives its sender this word, and others."""
    sent = ("send", wrong, silent)
    if promise == "once":
        return [("offer", 0, 0), sent, CLEAN]
    if promise == "order":
        return [("offer", 0, 1), sent, ("offer", 0, 0), CLEAN, CLEAN]
    if promise == "all" and word == "again":
        return [("offer", 0, 0), sent, ("fall", 0)]
    return [("offer", 0, 0), sent]


def judge(end, promise, wrong, *, silent=True, hearers=None):
    """None if an end keeps a promise, otherwise a history with the fewest wrong bits that breaks it.

    Raises NoPromise, then Unsound, then TooMany.
    """
    check_judged(end, promise)
    reach = Reach(end, wrong, silent, hearers)
    standing = breaking_standing(reach, promise)
    if standing is None:
        return None
    many, wrong_faults, silent_faults = reach.sending_to(standing)
    return many + 1, breaking_deeds(promise, standing[1], wrong_faults, silent_faults)


def weakness(end, promise, *, silent=True, hearers=None, most=3):
    """The least number of wrong bits within which an end does not keep a promise, None if it is above most.

    Raises NoPromise, then Unsound, then TooMany.
    """
    check_judged(end, promise)
    for wrong in range(most + 1):
        if breaking_standing(Reach(end, wrong, silent, hearers), promise) is not None:
            return wrong
    return None

"""Certificates: what shows that an end keeps or breaks a promise."""

from strongbit.judging import judge
from strongbit.reaches import Reach


def certificate(end, promise, wrong, *, silent=True):
    """Any certificate for a promise. Raises as judge."""
    history = judge(end, promise, wrong, silent=silent)
    if history is not None:
        stations, deeds = history
        return "broken", stations, deeds
    reach = Reach(end, wrong, silent, None)
    if promise == "rest":
        return "falling", list(reach.heights().items())
    return "closed", list(reach.moved)

"""The promises, and the outcomes of single sendings that break them."""

from strongbit.sendings import outcome_of

PROMISES = ("all", "once", "order", "rest")


def outcome_at(standing):
    """The outcome that a standing shows if it is over."""
    left, sender, crowd, many, hit = standing
    return outcome_of([None if sender == "silent" else sender, crowd, *hit])


def breaks(promise, outcome, silent):
    """Whether an outcome breaks "all", "once" or "order", with or without silences."""
    word, words = outcome
    if promise != "all":
        return word == "again" and "taken" in words
    if word == "done":
        return "lost" in words
    # Only where stations fall silent does a frame settle that was not done.
    return silent and "taken" in words and "lost" in words

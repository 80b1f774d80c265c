"""Families of ends: counted ends, the standard end, and voting ends."""

from strongbit.alike import least_machine
from strongbit.building import built_machine
from strongbit.ends import End

# The words for an end that went well and for one that did not.
HEARER_PAIR = ("taken", "lost")
SENDER_PAIR = ("done", "again")


def counted_row(state, bits, limit, flag, gap, pair):
    """The row of a state of a counted end.

    A state is ("end", number of the end bit), ("flag", word, number of its bit) or
    ("gap", word, number of the bits 1 heard so far).
    """
    good, bad = pair
    if state[0] == "end":
        number = state[1]
        word = bad if number <= limit else good
        return 1, ("flag", word, 1), good if number == bits else ("end", number + 1)
    part, word, number = state
    if part == "flag":
        behind = ("flag", word, number + 1) if number < flag else ("gap", word, 0)
        return 0, behind, behind
    on_strong = state if number == 0 else ("flag", word, 1)
    return 1, on_strong, word if number + 1 == gap else ("gap", word, number + 1)


def counted_end(bits, *, hearer, sender, flag=6, gap=8):
    """The counted end with these numbers, in least form."""
    hearer_rows = built_machine([("end", 1), ("flag", "lost", 1)],
                                lambda state: counted_row(state, bits, hearer, flag, gap, HEARER_PAIR))
    sender_rows = built_machine([("end", 1)],
                                lambda state: counted_row(state, bits, sender, flag, gap, SENDER_PAIR))
    return End(least_machine(hearer_rows, 2), least_machine(sender_rows, 1))


def standard_end():
    """The standard end."""
    return counted_end(7, hearer=6, sender=7, flag=6, gap=8)


def behind_vote(state, heard, votes, needed, rounds, pair):
    """What follows a state of a voting end behind a heard bit."""
    mood, turn, bit, strong = state
    if mood == "calm" and heard == 0:
        strong += 1
    if bit < votes:
        return mood, turn, bit + 1, strong
    if strong >= needed:
        mood = "warned"
    if turn < rounds:
        return mood, turn + 1, 1, 0
    good, bad = pair
    return bad if mood == "warned" else good


def voting_row(state, votes, needed, rounds, pair):
    """The row of a state of a voting end.

    A state is (mood, number of the round, number of its bit, bits 0 heard by a calm station in this round).
    """
    put = 1 if state[0] == "calm" else 0
    return (put, behind_vote(state, 0, votes, needed, rounds, pair), behind_vote(state, 1, votes, needed, rounds, pair))


def voting_end(votes, *, needed, rounds=1):
    """The voting end with these numbers, in least form."""
    calm = ("calm", 1, 1, 0)
    hearer_rows = built_machine([calm, ("warned", 1, 1, 0)],
                                lambda state: voting_row(state, votes, needed, rounds, HEARER_PAIR))
    sender_rows = built_machine([calm], lambda state: voting_row(state, votes, needed, rounds, SENDER_PAIR))
    return End(least_machine(hearer_rows, 2), least_machine(sender_rows, 1))


def voting_weakness(votes, *, needed, rounds=1, silent=True):
    """The least number of wrong bits within which a voting end does not keep "all" (nor "once")."""
    if silent:
        return min(needed, rounds + 1)
    return min(needed, 1 + rounds * (votes - needed + 1))

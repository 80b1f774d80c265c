"""Rows and machines as plain tuples: their form, and where heard bits lead."""

HEARER_WORDS = ("taken", "lost")
SENDER_WORDS = ("done", "again")


def is_number(value):
    """Whether a value is an integer, which True and False are not."""
    return isinstance(value, int) and not isinstance(value, bool)


def is_follower(value, size, words):
    """Whether a value can follow in a machine with so many rows and these words."""
    if isinstance(value, str):
        return value in words
    return is_number(value) and 0 <= value < size


def is_row(value, size, words):
    """Whether a value is a row of a machine with so many rows and these words."""
    if not isinstance(value, tuple) or len(value) != 3:
        return False
    put, on_strong, on_weak = value
    if not is_number(put) or put not in (0, 1):
        return False
    return is_follower(on_strong, size, words) and is_follower(on_weak, size, words)


def reached(rows, begin):
    """All rows and words to which some heard bits lead from a row, itself included."""
    found = {begin: True}
    ahead = [begin]
    while ahead:
        place = ahead.pop()
        for follower in rows[place][1:]:
            if follower in found:
                continue
            found[follower] = True
            if is_number(follower):
                ahead.append(follower)
    return list(found)

"""The text of machines, written and read."""

from strongbit.machines import HEARER_WORDS, SENDER_WORDS

MOST_DIGITS = 9


def machine_text(rows):
    """The text of a machine."""
    return ", ".join([f"{put} {on_strong} {on_weak}" for put, on_strong, on_weak in rows])


def is_numeral(piece):
    """Whether a string is a number of at most nine digits without leading zeros."""
    if not piece.isascii() or not piece.isdigit() or len(piece) > MOST_DIGITS:
        return False
    return piece == "0" or not piece.startswith("0")


def read_follower(piece):
    """The index or the word that a string stands for, None if it is neither."""
    if piece in HEARER_WORDS or piece in SENDER_WORDS:
        return piece
    if is_numeral(piece):
        return int(piece)
    return None


def read_row(text):
    """The row that a string stands for, None if it is no row."""
    pieces = text.split(" ")
    if len(pieces) != 3 or pieces[0] not in ("0", "1"):
        return None
    on_strong = read_follower(pieces[1])
    on_weak = read_follower(pieces[2])
    if on_strong is None or on_weak is None:
        return None
    return int(pieces[0]), on_strong, on_weak


def read_machines(text):
    """The lists of rows of both machines, the hearer's first; None if a value is not the text of an end."""
    if not isinstance(text, str):
        return None
    machines = [[read_row(row) for row in machine.split(", ")] for machine in text.split(" | ")]
    if len(machines) != 2 or None in machines[0] or None in machines[1]:
        return None
    return machines

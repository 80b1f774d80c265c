"""Ends and values that several tests use."""

import random
from itertools import product

from strongbit.ends import End
from strongbit.errors import BadEnd

TINY_HEARER = [(1, "lost", "taken"), (0, "lost", "lost")]
TINY_SENDER = [(1, "again", "done")]
TINY_TEXT = "1 lost taken, 0 lost lost | 1 again done"

STARTS = ("right", "wrong", "sender")

ODD_VALUES = [
    None, True, False, -1, 0, 1, 2, 10 ** 39, -10 ** 39, "", "taken", "lost", "done", "again", "0", "a\nb", "x" * 2000,
    (), [], {}, (1,), [1], {0: 1}, {"hearer": []}, (1, "lost"), [1, "lost", "lost"], (1, 2, 3, 4), ((), ()), [[], []],
    (((((((1,),),),),),),), {"a": [{"b": ({},)}]}, [(1, "lost", "taken")] * 4000,
]


def tiny():
    """The end of the examples in the document."""
    return End(TINY_HEARER, TINY_SENDER)


def rings(sender_size, hearer_size, tail):
    """An end with rings of these sizes, and so many bits ahead of the ring of the sender.

    If the sizes have no common divisor, each row of one ring meets each one of the other.
    """
    hearer = [(1, 0, 2), (0, "lost", "lost")]
    hearer += [(1, 0, 3 + index) for index in range(hearer_size - 2)] + [(1, 0, 0)]
    sender = [(1, 0, index + 1) for index in range(tail + sender_size - 1)] + [(1, 0, tail)]
    return End(hearer, sender)


def pad(rows, many, row):
    """These rows, filled up to so many with a further row."""
    return rows + [row] * (many - len(rows))


def random_machine(source, size, words):
    """A machine with so many rows."""
    places = list(range(size)) + list(words)
    return [(source.randrange(2), source.choice(places), source.choice(places)) for index in range(size)]


def random_end(source, most):
    """Any end with at most so many rows in each machine."""
    while True:
        hearer = random_machine(source, source.randint(2, most), ("taken", "lost"))
        sender = random_machine(source, source.randint(1, most), ("done", "again"))
        try:
            return End(hearer, sender)
        except BadEnd:
            continue


def random_ends(seed, many, most):
    """So many ends, the same ones each time."""
    source = random.Random(seed)
    return [random_end(source, most) for index in range(many)]


def all_bits(longest):
    """All tuples of at most so many bits, the shorter ones first, then in ascending order."""
    for length in range(longest + 1):
        yield from product((0, 1), repeat=length)

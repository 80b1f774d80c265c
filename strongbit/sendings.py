"""Single sendings: what is on the line, what the stations hear, and their words."""

from strongbit.courses import run


def outcome_of(words):
    """The outcome of a sending with these words, the sender's first."""
    word = "silent" if words[0] is None else words[0]
    return word, tuple(sorted({heard for heard in words[1:] if heard is not None}))


class Sending:
    """A sending that has ended. It never changes."""

    def __init__(self, line, words, heard):
        self.line_bits = tuple(line)
        self.station_words = tuple(words)
        self.heard_bits = tuple([tuple(bits) for bits in heard])

    @property
    def line(self):
        """The bits of the line."""
        return self.line_bits

    @property
    def words(self):
        """The words of all stations, None for silent ones."""
        return self.station_words

    @property
    def result(self):
        """The outcome: the sender's word and those of the hearers."""
        return outcome_of(self.station_words)

    def heard(self, station):
        """The bits that a station heard, without the body."""
        return self.heard_bits[station]

    def __eq__(self, other):
        return (isinstance(other, Sending) and self.line_bits == other.line_bits
                and self.station_words == other.station_words and self.heard_bits == other.heard_bits)

    def __len__(self):
        return len(self.line_bits)

    def __repr__(self):
        return f"Sending({len(self.line_bits)} bits)"

    def __iter__(self):
        return iter(self.line_bits)


def sending(end, hearers, *, wrong=(), silent=()):
    """The sending with so many hearers and these faults."""
    course = run(end, 0, list(range(1, hearers + 1)), wrong, silent)
    return Sending(course.line_bits, [course.places[station] for station in range(hearers + 1)],
                   [course.heard_bits[station] for station in range(hearers + 1)])

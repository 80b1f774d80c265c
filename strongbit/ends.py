"""Ends: the hearer's and the sender's machine."""

from strongbit.errors import BadEnd, BadText
from strongbit.machines import HEARER_WORDS, SENDER_WORDS, is_row, reached
from strongbit.texts import machine_text, read_machines


def check_machine(part, machine, fewest, most, words):
    """Raise BadEnd if any value is not the machine of a part."""
    if not isinstance(machine, (list, tuple)) or not fewest <= len(machine) <= most:
        raise BadEnd(part, None)
    for index, row in enumerate(machine):
        if not is_row(row, len(machine), words):
            raise BadEnd(part, index)


def numbered_rows(part, machine):
    """The tuples (part, index, row) of a machine."""
    return [(part, index, row) for index, row in enumerate(machine)]


class End:
    """An end of a frame. It never changes."""

    MOST = 100

    def __init__(self, hearer, sender):
        check_machine("hearer", hearer, 2, End.MOST, HEARER_WORDS)
        check_machine("sender", sender, 1, End.MOST, SENDER_WORDS)
        if "taken" in reached(hearer, 1):
            raise BadEnd("body", None)
        self.hearer_rows = tuple(hearer)
        self.sender_rows = tuple(sender)
        self.rows = tuple(numbered_rows("hearer", hearer) + numbered_rows("sender", sender))

    @classmethod
    def from_text(cls, text):
        """The end of a text."""
        machines = read_machines(text)
        if machines is None:
            raise BadText(text)
        hearer, sender = machines
        return cls(hearer, sender)

    @property
    def hearer(self):
        """The rows of the hearer's machine."""
        return self.hearer_rows

    @property
    def sender(self):
        """The rows of the sender's machine."""
        return self.sender_rows

    def __eq__(self, other):
        return (isinstance(other, End) and self.hearer_rows == other.hearer_rows
                and self.sender_rows == other.sender_rows)

    def __len__(self):
        return len(self.rows)

    def __repr__(self):
        return f"End({len(self.hearer_rows)} hearer rows, {len(self.sender_rows)} sender rows)"

    def __str__(self):
        return f"{machine_text(self.hearer_rows)} | {machine_text(self.sender_rows)}"

    def __iter__(self):
        return iter(self.rows)

    def __contains__(self, x):
        # Python holds True for 1, so a tuple with it would equal a row.
        if not isinstance(x, tuple) or any([isinstance(item, bool) for item in x]):
            return False
        return x in self.hearer_rows or x in self.sender_rows

"""The commands of the desk, read from strings."""

from strongbit.lines import FEWEST_STATIONS, MOST_STATIONS
from strongbit.promises import PROMISES
from strongbit.texts import is_numeral

LETTERS = "abcdefghijklmnopqrstuvwxyz"
LONGEST_NAME = 8

# What stands behind the first word of each command.
FORMS = {
    "end": ("name", "text"),
    "counted": ("name", "number", "number", "number", "number", "number"),
    "voting": ("name", "number", "number", "number"),
    "show": ("name",),
    "line": ("name", "number"),
    "offer": ("number", "number"),
    "fall": ("number",),
    "undo": (),
    "send": ("faults",),
    "has": ("number",),
    "waiting": (),
    "broken": (),
    "judge": ("name", "promise", "number", "mode"),
    "weakness": ("name", "promise", "mode"),
    "longest": ("name", "number", "mode"),
}

# The last part of a form may be one of these, which take all words that are left.
TAKE_ALL = ("text", "faults")

MODES = {"silences": True, "plain": False}

MOST_BITS = 10
MOST_FLAG = 8
MOST_GAP = 8
MOST_VOTES = 6
MOST_ROUNDS = 3
MOST_WRONG = 3


def read_name(word):
    """A name, or None."""
    is_name = 1 <= len(word) <= LONGEST_NAME and all([letter in LETTERS for letter in word])
    return word if is_name else None


def read_number(word):
    """The number that a word stands for, or None."""
    return int(word) if is_numeral(word) else None


def read_promise(word):
    """A promise, or None."""
    return word if word in PROMISES else None


def read_mode(word):
    """Whether there are silences, None if a word is no mode."""
    return MODES.get(word)


def read_text(words):
    """The text that some words make, None if there are none."""
    return " ".join(words) if words else None


def read_faults(words):
    """The lists of wrong and of silent faults that some words stand for, None if one of them is no fault."""
    wrong = []
    silent = []
    for word in words:
        sign = ":" if ":" in word else "/"
        numbers = [read_number(numeral) for numeral in word.split(sign)]
        if len(numbers) != 2 or None in numbers:
            return None
        if sign == ":":
            wrong.append(tuple(numbers))
        else:
            silent.append(tuple(numbers))
    return wrong, silent


READERS = {
    "name": read_name, "number": read_number, "promise": read_promise, "mode": read_mode,
    "text": read_text, "faults": read_faults,
}


def parts_of(form, words):
    """The words for each part of a form; there are too few or too many if they are not as many as the parts."""
    if form and form[-1] in TAKE_ALL:
        alone = len(form) - 1
        return [*words[:alone], words[alone:]]
    return words


def read_values(form, words):
    """The values that words have as parts of a form, None if they have not this form."""
    parts = parts_of(form, words)
    if len(parts) != len(form):
        return None
    values = []
    for kind, part in zip(form, parts):
        reader = READERS[kind]
        values.append(reader(part))
    return None if None in values else values


def limits(first, values):
    """The tuples (number, least, most) for the numbers of a command that have bounds."""
    if first == "counted":
        name, bits, hearer, sender, flag, gap = values
        return [(bits, 1, MOST_BITS), (hearer, 1, bits), (sender, 1, bits), (flag, 1, MOST_FLAG), (gap, 1, MOST_GAP)]
    if first == "voting":
        name, votes, needed, rounds = values
        return [(votes, 1, MOST_VOTES), (needed, 1, votes), (rounds, 1, MOST_ROUNDS)]
    if first == "line":
        return [(values[1], FEWEST_STATIONS, MOST_STATIONS)]
    if first == "judge":
        return [(values[2], 0, MOST_WRONG)]
    if first == "longest":
        return [(values[1], 0, MOST_WRONG)]
    return []


def read_command(command):
    """The first word of a command and the list of the values behind it, None for any value that is no command."""
    if not isinstance(command, str):
        return None
    first, *words = command.split(" ")
    if first not in FORMS or "" in words:
        return None
    values = read_values(FORMS[first], words)
    if values is None:
        return None
    if not all([least <= number <= most for number, least, most in limits(first, values)]):
        return None
    return first, values

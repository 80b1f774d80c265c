"""The desk: ends under names and a line, used by commands."""

from strongbit.commands import read_command
from strongbit.ends import End
from strongbit.errors import BadCommand, NoLine, NoName
from strongbit.families import counted_end, voting_end
from strongbit.judging import judge, weakness
from strongbit.lines import Line
from strongbit.outcomes import longest

# The greatest number of wrong bits that the command weakness looks at.
MOST_WEAKNESS = 2


def listed(parts):
    """Parts of an answer with single spaces between."""
    return " ".join(parts) if parts else "none"


def word_text(word):
    """The word of a station as it is told; None is that of a silent one."""
    return "silent" if word is None else word


def answer_end(desk, name, text):
    """Keep the end of a text."""
    desk.keep(name, End.from_text(text))
    return "ok"


def answer_counted(desk, name, bits, hearer, sender, flag, gap):
    """Keep a counted end."""
    desk.keep(name, counted_end(bits, hearer=hearer, sender=sender, flag=flag, gap=gap))
    return "ok"


def answer_voting(desk, name, votes, needed, rounds):
    """Keep a voting end."""
    desk.keep(name, voting_end(votes, needed=needed, rounds=rounds))
    return "ok"


def answer_show(desk, name):
    """The text of an end."""
    return str(desk.kept_end(name))


def answer_line(desk, name, stations):
    """Begin a new line."""
    desk.begin_line(Line(desk.kept_end(name), stations))
    return "ok"


def answer_offer(desk, station, frame):
    """A station offers a frame."""
    desk.kept_line().offer(station, frame)
    return "ok"


def answer_fall(desk, station):
    """A station falls silent."""
    desk.kept_line().fall(station)
    return "ok"


def answer_undo(desk):
    """Take back the last deed."""
    desk.kept_line().undo()
    return "ok"


def answer_send(desk, faults):
    """Send the least frame with these faults."""
    wrong, silent = faults
    words = desk.kept_line().send(wrong=wrong, silent=silent)
    return listed([f"{station}={word_text(word)}" for station, word in words])


def answer_has(desk, station):
    """The frames of a station."""
    return listed([str(frame) for frame in desk.kept_line().has(station)])


def answer_waiting(desk):
    """The frames that wait and where."""
    return listed([f"{frame}@{station}" for frame, station in desk.kept_line().waiting])


def answer_broken(desk):
    """The broken promises."""
    return listed([":".join([str(part) for part in broken]) for broken in desk.kept_line().broken()])


def answer_judge(desk, name, promise, wrong, silent):
    """Whether an end keeps a promise."""
    history = judge(desk.kept_end(name), promise, wrong, silent=silent)
    if history is None:
        return "holds"
    stations, deeds = history
    wrong_bits = sum([len(deed[1]) for deed in deeds if deed[0] == "send"])
    return f"breaks {wrong_bits}"


def answer_weakness(desk, name, promise, silent):
    """The least number of wrong bits within which an end does not keep a promise."""
    found = weakness(desk.kept_end(name), promise, silent=silent, most=MOST_WEAKNESS)
    return "none" if found is None else str(found)


def answer_longest(desk, name, wrong, silent):
    """The most bits of a sending."""
    found = longest(desk.kept_end(name), wrong, silent=silent)
    return "endless" if found is None else str(found)


ANSWERS = {
    "end": answer_end, "counted": answer_counted, "voting": answer_voting, "show": answer_show, "line": answer_line,
    "offer": answer_offer, "fall": answer_fall, "undo": answer_undo, "send": answer_send, "has": answer_has,
    "waiting": answer_waiting, "broken": answer_broken, "judge": answer_judge, "weakness": answer_weakness,
    "longest": answer_longest,
}


class Desk:
    """Ends under names and at most one line."""

    def __init__(self):
        self.ends_by_name = {}
        self.line_now = None

    def say(self, command):
        """The answer to a command. Raises BadCommand for any value that is none."""
        read = read_command(command)
        if read is None:
            raise BadCommand(command)
        first, values = read
        answer = ANSWERS[first]
        return answer(self, *values)

    @property
    def names(self):
        """The names of the ends that are kept."""
        return sorted(list(self.ends_by_name))

    def keep(self, name, end):
        """Keep an end under a name."""
        self.ends_by_name[name] = end

    def kept_end(self, name):
        """The end of a name. Raises NoName if there is none."""
        if name not in self.ends_by_name:
            raise NoName(name)
        return self.ends_by_name[name]

    def begin_line(self, line):
        """Take a new line in place of the one before."""
        self.line_now = line

    def kept_line(self):
        """The line. Raises NoLine if there is none."""
        if self.line_now is None:
            raise NoLine()
        return self.line_now

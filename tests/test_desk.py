"""Promises [27] and [28]: the desk and its commands."""

import random
import unittest

from strongbit.desk import Desk
from strongbit.ends import End
from strongbit.errors import (BadCommand, BadEnd, BadFault, BadFrame, BadText, Endless, NoHearer, NoLine, NoName,
                              NoStation, NothingToUndo, NothingWaits, Taken, TooMany, Unsound)
from strongbit.families import counted_end, standard_end, voting_end
from strongbit.judging import judge, weakness
from strongbit.lines import Line
from strongbit.outcomes import longest

from samples import ODD_VALUES, TINY_TEXT, tiny

# Without further faults this end never ends.
NEVER_TEXT = "1 0 0, 1 lost lost | 1 done done"


def desk_with(*commands):
    """A desk behind these commands, each of which is answered with ok."""
    desk = Desk()
    for command in commands:
        assert desk.say(command) == "ok", command
    return desk


def tiny_desk(*commands):
    """A desk with the end tiny and a line of three stations, behind these commands."""
    return desk_with(f"end tiny {TINY_TEXT}", "line tiny 3", *commands)


class Checked(unittest.TestCase):
    """What the tests of the desk have in common."""

    def answers(self, desk, *pairs):
        for command, answer in pairs:
            self.assertEqual(desk.say(command), answer, command)

    def raises(self, error, desk, command, **fields):
        with self.assertRaises(error) as caught:
            desk.say(command)
        self.assertIs(type(caught.exception), error)
        for field, value in fields.items():
            self.assertEqual(getattr(caught.exception, field), value, command)

    def bad(self, desk, *commands):
        for command in commands:
            with self.assertRaises(BadCommand, msg=repr(command)) as caught:
                desk.say(command)
            self.assertIs(caught.exception.command, command)


class TestEnds(Checked):
    def test_end_and_show(self):
        desk = Desk()
        self.answers(desk, (f"end tiny {TINY_TEXT}", "ok"), ("show tiny", TINY_TEXT),
                     ("end a 1 lost taken, 0 lost lost | 1 again done", "ok"), ("show a", TINY_TEXT),
                     ("end a 1 1 1, 0 0 0 | 0 done 0", "ok"), ("show a", "1 1 1, 0 0 0 | 0 done 0"))

    def test_families(self):
        desk = desk_with("counted standard 7 6 7 6 8", "counted b 3 1 2 4 5", "voting v 4 3 2", "voting abcdefgh 1 1 1")
        self.answers(desk, ("show standard", str(standard_end())),
                     ("show b", str(counted_end(3, hearer=1, sender=2, flag=4, gap=5))),
                     ("show v", str(voting_end(4, needed=3, rounds=2))), ("show abcdefgh", TINY_TEXT))
        self.assertEqual(desk.names, ["abcdefgh", "b", "standard", "v"])

    def test_in_place_of_another_one(self):
        desk = desk_with("voting a 2 1 1", "voting b 3 1 1", f"end a {TINY_TEXT}", "counted b 1 1 1 1 1")
        self.answers(desk, ("show a", TINY_TEXT), ("show b", str(counted_end(1, hearer=1, sender=1, flag=1, gap=1))))
        self.assertEqual(desk.names, ["a", "b"])

    def test_bad_texts_and_ends(self):
        desk = desk_with(f"end a {TINY_TEXT}")
        for text in ("x", "1 lost taken", TINY_TEXT + ",", "1 lost taken, 0 lost lost | 01 again done",
                     "1 lost taken, 0 lost lost | 1 again Done", "1 lost\ntaken, 0 lost lost | 1 again done",
                     "1 lost taken , 0 lost lost | 1 again done", "1 lost taken, 0 lost lost |", TINY_TEXT + "\n"):
            self.raises(BadText, desk, f"end a {text}", text=text)
            self.raises(BadText, desk, f"end b {text}", text=text)
        for text, part, row in [("1 lost taken, 0 lost 2 | 1 again done", "hearer", 1),
                                ("1 lost taken, 0 lost lost | 1 again 1", "sender", 0),
                                ("1 lost taken, 0 taken lost | 1 again done", "body", None),
                                ("1 lost taken | 1 again done", "hearer", None),
                                ("1 lost done, 0 lost lost | 1 again done", "hearer", 0)]:
            self.raises(BadEnd, desk, f"end a {text}", part=part, row=row)
        self.answers(desk, ("show a", TINY_TEXT))
        self.assertEqual(desk.names, ["a"])

    def test_names(self):
        desk = Desk()
        self.assertEqual(desk.names, [])
        for name in ("z", "b", "aa", "a", "zzzzzzzz", "ab"):
            desk.say(f"voting {name} 1 1 1")
        self.assertEqual(desk.names, ["a", "aa", "ab", "b", "z", "zzzzzzzz"])
        found = desk.names
        found.append("none")
        self.assertEqual(desk.names, ["a", "aa", "ab", "b", "z", "zzzzzzzz"])
        self.assertIsNot(desk.names, desk.names)

    def test_words_of_commands_may_be_names(self):
        desk = desk_with("voting end 1 1 1", "voting plain 2 2 1", "voting line 1 1 1", "line line 2",
                         "voting all 1 1 1")
        self.answers(desk, ("show plain", str(voting_end(2, needed=2))), ("judge all all 1 plain", "breaks 1"),
                     ("weakness end rest plain", "none"))


class TestLine(Checked):
    def test_a_line(self):
        desk = tiny_desk()
        self.answers(desk, ("waiting", "none"), ("broken", "none"), ("has 0", "none"), ("offer 1 7", "ok"),
                     ("waiting", "7@1"), ("offer 0 3", "ok"), ("offer 2 1000000", "ok"),
                     ("waiting", "3@0 7@1 1000000@2"), ("send", "0=done 1=taken 2=taken"), ("has 0", "3"),
                     ("has 2", "3"), ("send 1:1", "0=taken 1=again 2=taken"), ("waiting", "7@1 1000000@2"),
                     ("send", "0=taken 1=done 2=taken"), ("has 0", "3 7 7"), ("has 1", "3 7"),
                     ("broken", "once:7:0 once:7:2"), ("fall 2", "ok"), ("waiting", "none"), ("broken", "once:7:0"),
                     ("has 2", "3 7 7"))

    def test_faults(self):
        desk = tiny_desk("offer 0 5")
        self.answers(desk, ("send 1:2 1/1 0:1", "0=done 1=silent 2=lost"), ("undo", "ok"),
                     ("send 0:1 1/1 1:2", "0=done 1=silent 2=lost"), ("undo", "ok"),
                     ("send 1/0", "0=silent 1=taken 2=taken"), ("broken", "none"), ("undo", "ok"),
                     ("send 1/0 1/1 1/2", "0=silent 1=silent 2=silent"), ("has 1", "none"), ("undo", "ok"),
                     ("send 1/0 1:1", "0=silent 1=lost 2=taken"), ("broken", "all:5"))

    def test_all_that_is_broken(self):
        desk = tiny_desk("offer 0 1")
        self.answers(desk, ("send 1:0", "0=again 1=taken 2=taken"), ("offer 0 0", "ok"),
                     ("send 1:2", "0=done 1=taken 2=lost"),
                     ("send", "0=done 1=taken 2=taken"), ("broken", "all:0 once:1:1 once:1:2 order:0:1"))

    def test_undo_behind_each_deed(self):
        desk = tiny_desk()
        states = []

        def state():
            return [desk.say(command) for command in ("waiting", "broken", "has 0", "has 1", "has 2")]

        commands = ["offer 1 7", "offer 0 3", "send 1:0", "send", "fall 2", "send 1/0"]
        for command in commands:
            states.append(state())
            desk.say(command)
        for before in states[::-1]:
            self.assertEqual(desk.say("undo"), "ok")
            self.assertEqual(state(), before)
        self.raises(NothingToUndo, desk, "undo")

    def test_as_a_line(self):
        source = random.Random(141)
        for number in range(30):
            desk, line = tiny_desk(), Line(tiny(), 3)
            for step in range(25):
                command, done = random_step(source, line)
                try:
                    told = done()
                except (BadFault, BadFrame, Endless, NoHearer, NoStation, NothingToUndo, NothingWaits, Taken) as error:
                    self.raises(type(error), desk, command, **vars(error))
                else:
                    self.assertEqual(desk.say(command), written_words(told) if told else "ok")
                self.answers(desk, ("waiting", joined([f"{frame}@{station}" for frame, station in line.waiting])),
                             ("broken", joined([":".join(map(str, broken)) for broken in line.broken()])),
                             *[(f"has {station}", joined(map(str, line.has(station)))) for station in range(3)])

    def test_a_new_line(self):
        desk = tiny_desk("offer 0 1", "line tiny 2")
        self.answers(desk, ("waiting", "none"))
        self.raises(NothingToUndo, desk, "undo")
        self.raises(NoStation, desk, "has 2", station=2)
        self.answers(desk, ("line tiny 20", "ok"), ("has 19", "none"), ("offer 0 1", "ok"), ("send",
                     "0=done " + " ".join(f"{station}=taken" for station in range(1, 20))))

    def test_a_line_keeps_its_end(self):
        desk = tiny_desk("offer 0 1", f"end tiny {NEVER_TEXT}")
        self.answers(desk, ("show tiny", NEVER_TEXT), ("send", "0=done 1=taken 2=taken"), ("offer 0 2", "ok"),
                     ("voting tiny 1 1 1", "ok"), ("send", "0=done 1=taken 2=taken"))
        desk.say(f"end tiny {NEVER_TEXT}")
        self.answers(desk, ("line tiny 2", "ok"), ("offer 0 1", "ok"))
        self.raises(Endless, desk, "send", bit=1, ring=1)

    def test_two_desks(self):
        one, other = tiny_desk("offer 0 1"), Desk()
        self.assertEqual(other.names, [])
        self.raises(NoLine, other, "waiting")
        self.raises(NoName, other, "show tiny", name="tiny")
        other.say("voting tiny 2 1 1")
        other.say("line tiny 2")
        self.answers(one, ("show tiny", TINY_TEXT), ("waiting", "1@0"))
        self.answers(other, ("waiting", "none"))


def joined(parts):
    """The parts of an answer with spaces between."""
    return " ".join(parts) or "none"


def written_words(told):
    """The answer for the words of all stations."""
    return " ".join(f"{station}={word or 'silent'}" for station, word in told)


def random_step(source, line):
    """A command of the desk, and a function that does the same on a line."""
    kind = source.choice(["offer", "offer", "send", "send", "send", "fall", "undo"])
    station = source.randrange(4)
    if kind == "offer":
        frame = source.choice([0, 1, 2, 3, 10 ** 6, 10 ** 6 + 1])
        return f"offer {station} {frame}", lambda: line.offer(station, frame)
    if kind == "fall":
        return f"fall {station}", lambda: line.fall(station)
    if kind == "undo":
        return "undo", line.undo
    faults = [(source.randrange(3), source.randrange(4), source.choice(":://")) for index in range(source.randrange(4))]
    command = " ".join(["send"] + [f"{bit}{sign}{who}" for bit, who, sign in faults])
    wrong = [(bit, who) for bit, who, sign in faults if sign == ":"]
    silent = [(bit, who) for bit, who, sign in faults if sign == "/"]
    return command, lambda: line.send(wrong=wrong, silent=silent)


class TestJudged(Checked):
    def test_as_the_functions(self):
        ends = {"tiny": tiny(), "voting": voting_end(3, needed=2, rounds=2),
                "counted": counted_end(2, hearer=1, sender=2, flag=1, gap=1),
                "ring": End([(1, "lost", "taken"), (1, 2, "lost"), (1, "lost", 2)], [(1, "again", "done")])}
        desk = desk_with(*[f"end {name} {end}" for name, end in ends.items()])
        for name, end in ends.items():
            for mode, silent in (("silences", True), ("plain", False)):
                for promise in ("all", "once", "order", "rest"):
                    for wrong in range(4):
                        told = judge(end, promise, wrong, silent=silent)
                        answer = "holds" if told is None else "breaks " + str(
                            sum(len(deed[1]) for deed in told[1] if deed[0] == "send"))
                        self.answers(desk, (f"judge {name} {promise} {wrong} {mode}", answer))
                    number = weakness(end, promise, silent=silent, most=2)
                    self.answers(desk, (f"weakness {name} {promise} {mode}", "none" if number is None else str(number)))
                for wrong in range(4):
                    number = longest(end, wrong, silent=silent)
                    self.answers(desk, (f"longest {name} {wrong} {mode}", "endless" if number is None else str(number)))

    def test_answers(self):
        desk = desk_with("voting v 4 3 1", "counted std 7 6 7 6 8",
                         "end ring 1 lost taken, 1 2 lost, 1 lost 2 | 1 again done")
        # The vote holds within 2 wrong bits without silences, and within 1 with them.
        self.answers(desk, ("judge v all 2 plain", "holds"), ("judge v all 3 plain", "breaks 3"),
                     ("judge v all 1 silences", "holds"), ("judge v all 3 silences", "breaks 2"),
                     ("weakness v all silences", "2"), ("weakness v all plain", "none"),
                     ("weakness std once silences", "1"), ("weakness std rest silences", "none"),
                     ("judge ring rest 3 plain", "breaks 2"), ("judge ring rest 1 silences", "holds"),
                     ("weakness ring rest plain", "2"), ("longest ring 2 plain", "endless"),
                     ("longest ring 1 plain", "1"), ("longest std 0 plain", "7"))

    def test_errors_of_the_functions(self):
        desk = desk_with(f"end never {NEVER_TEXT}", "counted std 7 6 7 6 8")
        for promise in ("all", "once", "order", "rest"):
            self.raises(Unsound, desk, f"judge never {promise} 3 plain")
            self.raises(Unsound, desk, f"weakness never {promise} silences")
            self.raises(TooMany, desk, f"judge std {promise} 3 silences", limit=5000)
        self.raises(TooMany, desk, "longest std 3 plain", limit=5000)
        self.answers(desk, ("longest never 0 plain", "endless"))


class TestNoCommands(Checked):
    def test_words_missing_or_more(self):
        desk = tiny_desk("offer 0 1")
        full = ["counted a 1 1 1 1 1", "voting a 1 1 1", "show tiny", "line tiny 2", "offer 1 2", "fall 1", "undo",
                "has 1", "waiting", "broken", "judge tiny all 1 plain", "weakness tiny all plain",
                "longest tiny 1 plain", "send 1:1"]
        for command in full:
            words = command.split(" ")
            self.bad(desk, *[f"{command} {more}" for more in ("x", "1", "plain", "tiny", "|")])
            self.bad(desk, *[" ".join(words[:many]) for many in range(1, len(words)) if words[0] != "send"])
            self.bad(desk, *[" ".join(words[many:]) for many in range(1, len(words) + 1)])
            self.bad(desk, f" {command}", f"{command} ", f"  {command}", f"{command}  ", f"{command}\n", f"\n{command}",
                     command.upper(), command.capitalize())
            self.bad(desk, *["  ".join([" ".join(words[:at]), " ".join(words[at:])]) for at in range(1, len(words))])
        self.answers(desk, ("waiting", "1@0"))
        self.bad(desk, "", " ", "ok", "ends a x", "Desk", "names")

    def test_ends(self):
        desk = tiny_desk()
        self.bad(desk, "end", "end a", "end a ", "end  a x", f"end  a {TINY_TEXT}", f"end a  {TINY_TEXT}",
                 f"end {TINY_TEXT}", f" end a {TINY_TEXT}", f"end a {TINY_TEXT} ", f"End a {TINY_TEXT}",
                 "end a 1 lost taken,  0 lost lost | 1 again done", "end a 1 lost taken, 0 lost lost |  1 again done")
        self.assertEqual(desk.names, ["tiny"])

    def test_names(self):
        desk = tiny_desk()
        for name in ("A", "Tiny", "tIny", "abcdefghi", "a1", "1", "a_b", "a-b", "a|", "-", "tiny\n", "a,b"):
            self.bad(desk, f"end {name} {TINY_TEXT}", f"counted {name} 1 1 1 1 1", f"voting {name} 1 1 1",
                     f"show {name}", f"line {name} 2", f"judge {name} all 1 plain", f"weakness {name} all plain",
                     f"longest {name} 1 plain")
        self.assertEqual(desk.names, ["tiny"])

    def test_numbers(self):
        desk = tiny_desk("offer 0 1")
        for word in ("01", "00", "+1", "-1", "1.0", "one", "1" * 10, "0000000001", "1_0", "0x1", "1,", "True", "1\n"):
            self.bad(desk, f"offer {word} 5", f"offer 1 {word}", f"fall {word}", f"has {word}", f"line tiny {word}",
                     f"judge tiny all {word} plain", f"longest tiny {word} plain", f"counted a {word} 1 1 1 1",
                     f"counted a 1 {word} 1 1 1", f"counted a 1 1 {word} 1 1", f"counted a 1 1 1 {word} 1",
                     f"counted a 1 1 1 1 {word}", f"voting a {word} 1 1", f"voting a 1 {word} 1",
                     f"voting a 1 1 {word}", f"send {word}:1", f"send 1:{word}", f"send {word}/1", f"send 1/{word}")
        self.answers(desk, ("waiting", "1@0"))
        # Nine digits are a number, and the methods tell what they do not take.
        self.raises(BadFrame, desk, "offer 1 999999999", frame=999999999)
        self.raises(NoStation, desk, "offer 999999999 0", station=999999999)
        self.raises(BadFault, desk, "send 999999999:1", bit=999999999, station=1)
        self.raises(BadFault, desk, "send 0:999999999", bit=0, station=999999999)

    def test_bounds(self):
        desk = tiny_desk()
        self.bad(desk, "counted a 0 1 1 1 1", "counted a 11 1 1 1 1", "counted a 5 0 1 1 1", "counted a 5 6 1 1 1",
                 "counted a 5 1 0 1 1", "counted a 5 1 6 1 1", "counted a 5 1 1 0 1", "counted a 5 1 1 9 1",
                 "counted a 5 1 1 1 0", "counted a 5 1 1 1 9", "voting a 0 0 1", "voting a 0 1 1", "voting a 7 1 1",
                 "voting a 3 0 1", "voting a 3 4 1", "voting a 3 1 0", "voting a 3 1 4", "line tiny 0", "line tiny 1",
                 "line tiny 21", "line none 1", "judge tiny all 4 plain", "longest tiny 4 silences",
                 "judge none all 4 plain", "longest none 4 plain", "judge tiny all 999999999 plain")
        self.assertEqual(desk.names, ["tiny"])
        for command in ("counted a 10 10 10 8 8", "counted a 10 1 1 1 1", "counted a 1 1 1 8 1", "voting a 6 6 3",
                        "voting a 6 1 1", "line tiny 2", "line tiny 20"):
            self.answers(desk, (command, "ok"))
        self.answers(desk, ("judge tiny all 0 plain", "holds"), ("longest tiny 3 plain", "1"))

    def test_faults(self):
        desk = tiny_desk("offer 0 1")
        self.bad(desk, "send 1", "send 1:", "send :1", "send :", "send /", "send 1/", "send /1", "send 1:1:1",
                 "send 1/1/1",
                 "send 1:1/1", "send 1/1:1", "send 1-1", "send 1:1,1:2", "send 1:1 1", "send 1:1  1:2", "send 1: 1",
                 "send a:b", "send (1,1)", "send ::", "send 1::1")
        self.answers(desk, ("waiting", "1@0"))
        self.raises(BadFault, desk, "send 1:1 1:1", bit=1, station=1)
        self.raises(BadFault, desk, "send 1:1 1/1", bit=1, station=1)
        self.raises(BadFault, desk, "send 2:1 1:3", bit=1, station=3)
        self.raises(BadFault, desk, "send 0:0", bit=0, station=0)

    def test_other_modes_and_promises(self):
        desk = tiny_desk()
        for mode in ("silent", "Plain", "SILENCES", "plain,", "none", "True", "1", "silences\n"):
            self.bad(desk, f"judge tiny all 1 {mode}", f"weakness tiny all {mode}", f"longest tiny 1 {mode}")
        for promise in ("ALL", "none", "All", "orders", "twice", "1", "all,once", "plain"):
            self.bad(desk, f"judge tiny {promise} 1 plain", f"weakness tiny {promise} plain")
        self.bad(desk, "judge tiny 1 all plain", "judge tiny all plain 1", "weakness tiny plain all",
                 "longest 1 tiny plain")

    def test_values_that_are_no_strings(self):
        desk = tiny_desk()
        self.bad(desk, *[value for value in ODD_VALUES], ["undo"], ("undo",), {"undo": 1}, ["show", "tiny"], 0, None)
        self.answers(desk, ("show tiny", TINY_TEXT))

    def test_named_argument(self):
        self.assertEqual(tiny_desk().say(command="show tiny"), TINY_TEXT)


class TestOrderOfErrors(Checked):
    def test_bad_command_then_no_name_then_no_line(self):
        desk = Desk()
        self.bad(desk, "show A", "line none 1", "judge none all 4 plain", "offer 1", "send 1", "weakness none no plain")
        for command in ("show none", "line none 2", "judge none all 3 plain", "weakness none all plain",
                        "longest none 3 silences"):
            self.raises(NoName, desk, command, name="none")
        for command in ("offer 0 1", "offer 99 9999999", "fall 0", "undo", "send", "send 9:9", "has 0", "has 99",
                        "waiting", "broken"):
            self.raises(NoLine, desk, command)
        desk = desk_with(f"end tiny {TINY_TEXT}")
        self.raises(NoLine, desk, "undo")
        self.raises(NoName, desk, "line other 2", name="other")

    def test_then_those_of_the_methods(self):
        desk = tiny_desk()
        self.raises(NoStation, desk, "offer 3 9999999", station=3)
        self.raises(BadFrame, desk, "offer 0 1000001", frame=1000001)
        self.raises(NothingWaits, desk, "send 9:9")
        desk.say("offer 0 1")
        self.raises(Taken, desk, "offer 1 1", frame=1)
        self.raises(NoStation, desk, "fall 3", station=3)
        self.raises(NoStation, desk, "has 3", station=3)
        self.raises(BadFault, desk, "send 1:5", bit=1, station=5)
        desk.say("fall 1")
        self.raises(NoStation, desk, "fall 1", station=1)
        self.raises(NoStation, desk, "offer 1 9999999", station=1)
        desk.say("fall 2")
        self.raises(NoHearer, desk, "send 9:9")

    def test_an_error_changes_nothing(self):
        desk = tiny_desk("offer 0 1", "offer 1 2", f"end never {NEVER_TEXT}")
        desk.say("send 1:0")

        def state():
            return desk.names, [desk.say(command) for command in ("waiting", "broken", "has 0", "has 1", "has 2",
                                                                  "show tiny", "show never")]

        before = state()
        for command in ("offer 0 1", "offer 3 3", "offer 0 1000001", "fall 3", "send 7:0", "send 1:0 1:0", "has 9",
                        "end tiny x", "end other x", "end tiny 1 lost taken | 1 again done", "line other 2",
                        "line tiny 1", "show other",
                        "judge never all 1 plain", "voting tiny 7 1 1", "counted tiny 1 2 1 1 1", "undo 1", "", None):
            with self.assertRaises((ValueError, KeyError, LookupError, TypeError, ArithmeticError)):
                desk.say(command)
            self.assertEqual(state(), before, command)
        self.answers(desk, ("undo", "ok"), ("waiting", "1@0 2@1"), ("has 1", "none"))
        desk = desk_with(f"end never {NEVER_TEXT}", "line never 2", "offer 0 1")
        self.raises(Endless, desk, "send", bit=1, ring=1)
        self.answers(desk, ("waiting", "1@0"), ("undo", "ok"))
        self.raises(NothingToUndo, desk, "undo")


if __name__ == "__main__":
    unittest.main()

"""Lines, their deeds and promises: promises 14 to 17."""

import inspect
import random
import unittest

from strongbit import lines
from strongbit.ends import End
from strongbit.errors import (BadDeed, BadFault, BadFrame, Endless, NoHearer, NoStation, NothingToUndo, NothingWaits,
                              Taken)
from strongbit.families import standard_end, voting_end
from strongbit.lines import Line

from plain import PlainLine
from samples import ODD_VALUES, random_end, tiny

# A sending in which a hearer heard the body wrongly goes on for ever.
LASTING = End([(1, "lost", "taken"), (0, 1, 1)], [(1, "again", "done")])

ERRORS = (BadDeed, BadFault, BadFrame, Endless, NoHearer, NoStation, NothingToUndo, NothingWaits, Taken)


def view(line):
    """Everything that a line tells of itself."""
    stations = int(repr(line)[len("Line("):].split(" ")[0])
    return (repr(line), len(line), bool(line), line.deeds, line.waiting, line.awake,
            [line.has(station) for station in range(stations)], line.broken())


def behind(stations, deeds, end=None):
    """A new line behind some deeds."""
    line = Line(end or tiny(), stations)
    for deed in deeds:
        line.do(deed)
    return line


def error_told(function, *given, **named):
    """The name of the error's class and its fields, or what the call returns."""
    try:
        return "did", function(*given, **named)
    except ERRORS as error:
        return "error", type(error).__name__, tuple(vars(error).values())


class TestNewLines(unittest.TestCase):
    def test_all_is_new(self):
        for stations in (2, 3, 20):
            line = Line(tiny(), stations)
            self.assertEqual((line.deeds, line.waiting, line.awake), ([], [], list(range(stations))))
            self.assertEqual((len(line), bool(line), line.broken()), (stations, True, []))
            self.assertEqual([line.has(station) for station in range(stations)], [[]] * stations)
            self.assertEqual(repr(line), f"Line({stations} stations, 0 frames)")

    def test_by_name(self):
        self.assertEqual(repr(Line(stations=4, end=tiny())), "Line(4 stations, 0 frames)")

    def test_lists_are_new(self):
        line = behind(3, [("offer", 0, 5), ("send", (), ()), ("offer", 1, 7)])
        expected = view(line)
        for found in (line.deeds, line.waiting, line.awake, line.has(0), line.broken()):
            found.append("more")
            found.reverse()
        self.assertEqual(view(line), expected)

    def test_equal_only_to_itself(self):
        line, other = Line(tiny(), 2), Line(tiny(), 2)
        self.assertTrue(line == line)
        self.assertFalse(line == other)
        self.assertTrue(line != other)
        for value in (None, 2, [], "Line(2 stations, 0 frames)"):
            self.assertFalse(line == value)

    def test_where_it_is_defined(self):
        self.assertEqual(Line.__module__, lines.__name__)
        for name in ("offer", "fall", "send", "do", "undo", "trial", "tried", "deeds", "waiting", "awake", "has",
                     "broken", "__contains__", "__len__", "__repr__", "replayed"):
            self.assertIn(name, vars(Line))
        for name in ("deeds", "waiting", "awake"):
            self.assertIsInstance(vars(Line)[name], property)
            with self.assertRaises(AttributeError):
                setattr(Line(tiny(), 2), name, [])

    def test_signatures(self):
        for method, signature in [(Line.offer, "(self, station, frame)"), (Line.fall, "(self, station)"),
                                  (Line.send, "(self, *, wrong=(), silent=())"), (Line.do, "(self, deed)"),
                                  (Line.undo, "(self)"), (Line.trial, "(self)"), (Line.tried, "(self, function)"),
                                  (Line.has, "(self, station)"), (Line.broken, "(self)"),
                                  (Line.replayed, "(end, stations, deeds)"), (Line, "(end, stations)")]:
            self.assertEqual(str(inspect.signature(method)), signature)


class TestOffers(unittest.TestCase):
    def test_frames_wait(self):
        line = Line(tiny(), 3)
        self.assertIsNone(line.offer(1, 7))
        self.assertIsNone(line.offer(2, 0))
        self.assertIsNone(line.offer(frame=10 ** 6, station=1))
        self.assertEqual(line.waiting, [(0, 2), (7, 1), (10 ** 6, 1)])
        self.assertEqual(line.deeds, [("offer", 1, 7), ("offer", 2, 0), ("offer", 1, 10 ** 6)])
        self.assertEqual(repr(line), "Line(3 stations, 3 frames)")
        self.assertEqual((line.has(1), line.broken()), ([], []))

    def test_stations_that_are_none(self):
        line = behind(3, [("fall", 2)])
        expected = view(line)
        for station in [3, 2, -1, 10 ** 39, True, False, "0", None, 0.0, (0,), [0], {0: 0}]:
            self.assertEqual(error_told(line.offer, station, 5), ("error", "NoStation", (station,)))
        self.assertEqual(view(line), expected)

    def test_frames_that_are_none(self):
        line = Line(tiny(), 3)
        for frame in [-1, 10 ** 6 + 1, 10 ** 39, True, False, "0", None, (0,), [0], {0: 0}]:
            self.assertEqual(error_told(line.offer, 0, frame), ("error", "BadFrame", (frame,)))
        self.assertEqual((line.waiting, line.deeds, repr(line)), ([], [], "Line(3 stations, 0 frames)"))

    def test_frames_that_were_offered(self):
        line = behind(3, [("offer", 0, 5), ("offer", 1, 6), ("send", (), ()), ("offer", 2, 7), ("fall", 2)])
        expected = view(line)
        for frame in (5, 6, 7):
            self.assertEqual(error_told(line.offer, 1, frame), ("error", "Taken", (frame,)))
        self.assertEqual(view(line), expected)

    def test_order_of_errors(self):
        line = behind(2, [("offer", 0, 5)])
        self.assertEqual(error_told(line.offer, 9, -1), ("error", "NoStation", (9,)))
        self.assertEqual(error_told(line.offer, 9, 5), ("error", "NoStation", (9,)))
        self.assertEqual(error_told(line.offer, 0, [5]), ("error", "BadFrame", ([5],)))

    def test_odd_values(self):
        line = Line(tiny(), 2)
        for value in ODD_VALUES:
            if value not in (0, 1) or isinstance(value, bool):
                self.assertEqual(error_told(line.offer, value, 3), ("error", "NoStation", (value,)))
                self.assertEqual(error_told(line.fall, value), ("error", "NoStation", (value,)))
                self.assertEqual(error_told(line.has, value), ("error", "NoStation", (value,)))
            if value not in (0, 1, 2) or isinstance(value, bool):
                self.assertEqual(error_told(line.offer, 1, value), ("error", "BadFrame", (value,)))
                self.assertFalse(value in line)
        self.assertEqual(line.deeds, [])


class TestFalls(unittest.TestCase):
    def test_silent_for_good(self):
        line = Line(tiny(), 3)
        self.assertIsNone(line.fall(1))
        self.assertEqual((line.awake, len(line), line.deeds), ([0, 2], 2, [("fall", 1)]))
        self.assertEqual(error_told(line.fall, 1), ("error", "NoStation", (1,)))
        self.assertIsNone(line.fall(station=0))
        self.assertEqual((line.awake, bool(line)), ([2], True))
        line.fall(2)
        self.assertEqual((line.awake, len(line), bool(line)), ([], 0, False))
        self.assertEqual(error_told(line.fall, 2), ("error", "NoStation", (2,)))
        self.assertEqual(error_told(line.offer, 2, 5), ("error", "NoStation", (2,)))
        self.assertEqual(repr(line), "Line(3 stations, 0 frames)")

    def test_its_frames_are_settled(self):
        line = behind(3, [("offer", 1, 5), ("offer", 0, 6), ("offer", 1, 7), ("fall", 1)])
        self.assertEqual((line.waiting, repr(line)), ([(6, 0)], "Line(3 stations, 3 frames)"))
        self.assertEqual((5 in line, 6 in line, 7 in line), (False, True, False))
        self.assertEqual(line.broken(), [])

    def test_it_still_has_its_frames(self):
        line = behind(3, [("offer", 0, 5), ("send", (), ()), ("fall", 1), ("fall", 0)])
        self.assertEqual((line.has(0), line.has(1), line.has(2)), ([5], [5], [5]))

    def test_odd_stations(self):
        line = Line(tiny(), 2)
        for station in (2, -1, True, None, "0", (0,), [0]):
            self.assertEqual(error_told(line.fall, station), ("error", "NoStation", (station,)))
        self.assertEqual(line.awake, [0, 1])


class TestSendings(unittest.TestCase):
    def test_the_least_frame_is_sent(self):
        line = behind(3, [("offer", 2, 9), ("offer", 1, 4), ("offer", 0, 6)])
        self.assertEqual(line.send(), [(0, "taken"), (1, "done"), (2, "taken")])
        self.assertEqual(line.waiting, [(6, 0), (9, 2)])
        self.assertEqual(line.send(), [(0, "done"), (1, "taken"), (2, "taken")])
        self.assertEqual(line.send(), [(0, "taken"), (1, "taken"), (2, "done")])
        self.assertEqual(line.waiting, [])
        self.assertEqual([line.has(station) for station in range(3)], [[4, 6, 9]] * 3)
        self.assertEqual((line.deeds[3:], line.broken()), ([("send", (), ())] * 3, []))

    def test_a_frame_that_waits_on_is_sent_again(self):
        line = behind(3, [("offer", 1, 4)])
        self.assertEqual(line.send(wrong=[(0, 0)]), [(0, "lost"), (1, "again"), (2, "lost")])
        self.assertEqual((line.waiting, line.has(1), 4 in line), ([(4, 1)], [], True))
        self.assertEqual(line.send(wrong=[(1, 1)]), [(0, "taken"), (1, "again"), (2, "taken")])
        self.assertEqual((line.waiting, line.has(0), line.has(1)), ([(4, 1)], [4], []))
        self.assertEqual(line.send(), [(0, "taken"), (1, "done"), (2, "taken")])
        self.assertEqual((line.waiting, 4 in line), ([], False))
        self.assertEqual([line.has(station) for station in range(3)], [[4, 4], [4], [4, 4]])
        self.assertEqual(line.broken(), [("once", 4, 0), ("once", 4, 2)])

    def test_a_lesser_frame_goes_ahead(self):
        line = behind(2, [("offer", 0, 4), ("send", ((1, 0),), ()), ("offer", 0, 3)])
        self.assertEqual(line.waiting, [(3, 0), (4, 0)])
        line.send()
        line.send()
        self.assertEqual((line.has(0), line.has(1)), ([3, 4], [4, 3, 4]))
        self.assertEqual(line.broken(), [("once", 4, 1), ("order", 3, 4)])

    def test_silence_of_the_sender_settles_its_frames(self):
        line = behind(3, [("offer", 1, 4), ("offer", 1, 8), ("offer", 0, 6)])
        self.assertEqual(line.send(silent=[(1, 1)]), [(0, "taken"), (1, None), (2, "taken")])
        self.assertEqual((line.waiting, line.awake), ([(6, 0)], [0, 2]))
        self.assertEqual((line.has(0), line.has(1), line.broken()), ([4], [], []))
        self.assertEqual(line.send(), [(0, "done"), (2, "taken")])

    def test_silence_of_hearers(self):
        line = behind(4, [("offer", 0, 4), ("offer", 2, 5), ("offer", 3, 6)])
        self.assertEqual(line.send(silent=[(1, 3), (1, 2)]), [(0, "done"), (1, "taken"), (2, None), (3, None)])
        self.assertEqual((line.awake, line.waiting), ([0, 1], []))
        self.assertEqual(line.deeds[-1], ("send", (), ((1, 2), (1, 3))))
        self.assertEqual(line.broken(), [])

    def test_faults_have_the_numbers_of_the_line(self):
        line = behind(4, [("fall", 1), ("offer", 2, 5)])
        self.assertEqual(line.send(wrong=[(1, 3)]), [(0, "taken"), (2, "done"), (3, "lost")])
        self.assertEqual(line.broken(), [("all", 5)])

    def test_deeds_have_ascending_tuples(self):
        line = behind(4, [("offer", 3, 5)])
        wrong, silent = [(1, 2), (0, 1), (1, 0)], [[1, 3], [1, 1]]
        line.send(wrong=wrong, silent=silent)
        self.assertEqual(line.deeds[-1], ("send", ((0, 1), (1, 0), (1, 2)), ((1, 1), (1, 3))))
        self.assertEqual((wrong, silent), ([(1, 2), (0, 1), (1, 0)], [[1, 3], [1, 1]]))
        self.assertEqual([type(part) for part in line.deeds[-1]], [str, tuple, tuple])
        self.assertEqual([type(fault) for fault in line.deeds[-1][2]], [tuple, tuple])

    def test_longer_ends(self):
        line = Line(standard_end(), 5)
        line.offer(4, 1)
        self.assertEqual(line.send(wrong=[(7, 4)]),
                         [(0, "taken"), (1, "taken"), (2, "taken"), (3, "taken"), (4, "again")])
        self.assertEqual(line.send(), [(0, "taken"), (1, "taken"), (2, "taken"), (3, "taken"), (4, "done")])
        self.assertEqual(line.broken(), [("once", 1, station) for station in range(4)])


class TestSendErrors(unittest.TestCase):
    def test_nothing_waits(self):
        line = Line(tiny(), 2)
        self.assertEqual(error_told(line.send), ("error", "NothingWaits", ()))
        self.assertEqual(error_told(line.send, wrong=[(9, 9)]), ("error", "NothingWaits", ()))
        line.offer(0, 1)
        line.send()
        self.assertEqual(error_told(line.send), ("error", "NothingWaits", ()))
        line.fall(0)
        line.fall(1)
        self.assertEqual(error_told(line.send), ("error", "NothingWaits", ()))

    def test_no_hearer(self):
        line = behind(2, [("offer", 1, 5), ("fall", 0)])
        expected = view(line)
        self.assertEqual(error_told(line.send), ("error", "NoHearer", ()))
        self.assertEqual(error_told(line.send, wrong=[(0, 1)], silent=[(7, 0)]), ("error", "NoHearer", ()))
        self.assertEqual(view(line), expected)
        self.assertEqual(line.waiting, [(5, 1)])

    def test_bad_faults_by_the_numbers_of_the_line(self):
        line = behind(4, [("fall", 1), ("offer", 2, 5)])
        expected = view(line)
        for wrong, silent, bad in [([(0, 2)], [], (0, 2)), ([(0, 1)], [], (0, 1)), ([(1, 1)], [], (1, 1)),
                                   ([], [(1, 1)], (1, 1)), ([(1, 4)], [], (1, 4)), ([(2, 0)], [], (2, 0)),
                                   ([(1, 3), (1, 1), (1, 9)], [(1, 4)], (1, 1)), ([(1, 3)], [(1, 3)], (1, 3)),
                                   ([], [(0, 0)], (0, 0)), ([(1, 0), (1, 0)], [(1, 3), (1, 3)], (1, 0)),
                                   ([(5001, 0)], [(1, 2)], (5001, 0)), ([(0, 10 ** 39)], [], (0, 10 ** 39))]:
            self.assertEqual(error_told(line.send, wrong=wrong, silent=silent), ("error", "BadFault", bad))
        self.assertEqual(view(line), expected)
        self.assertEqual(line.send(wrong=[(0, 0)]), [(0, "lost"), (2, "again"), (3, "lost")])

    def test_endless(self):
        line = behind(3, [("offer", 2, 5)], LASTING)
        expected = view(line)
        self.assertEqual(error_told(line.send, wrong=[(0, 1)]), ("error", "Endless", (1, 1)))
        self.assertEqual(error_told(line.send, wrong=[(0, 1), (1, 0), (4, 1)]), ("error", "Endless", (4, 1)))
        self.assertEqual(error_told(line.send, wrong=[(0, 1), (4, 0)]), ("error", "BadFault", (4, 0)))
        self.assertEqual(view(line), expected)
        self.assertEqual(line.send(wrong=[(0, 1)], silent=[(3, 1)]), [(0, "lost"), (1, None), (2, "again")])


class TestBroken(unittest.TestCase):
    def test_all(self):
        line = behind(3, [("offer", 0, 4)])
        line.send(wrong=[(1, 2)])
        self.assertEqual(line.broken(), [("all", 4)])
        # With nobody awake that has it not, it is not broken any more.
        self.assertEqual(line.tried(lambda held: held.fall(2) or held.broken()), [])
        self.assertEqual(line.tried(lambda held: held.fall(1) or held.broken()), [("all", 4)])
        self.assertEqual(line.tried(lambda held: held.fall(1) or held.fall(0) or held.broken()), [])

    def test_all_is_not_asked_of_frames_that_wait(self):
        line = behind(4, [("offer", 0, 4)])
        line.send(wrong=[(1, 0), (1, 2)])
        self.assertEqual((line.has(1), line.has(2), line.broken()), ([4], [], []))
        line.fall(0)
        self.assertEqual(line.broken(), [("all", 4)])

    def test_once_is_asked_of_frames_that_wait(self):
        line = behind(3, [("offer", 0, 4), ("send", ((1, 0),), ()), ("send", ((1, 0), (1, 2)), ())])
        self.assertEqual((line.waiting, line.has(1), line.has(2)), ([(4, 0)], [4, 4], [4]))
        self.assertEqual(line.broken(), [("once", 4, 1)])
        line.send(wrong=[(1, 0)])
        self.assertEqual(line.broken(), [("once", 4, 1), ("once", 4, 2)])
        line.fall(1)
        self.assertEqual(line.broken(), [("once", 4, 2)])

    def test_order(self):
        line = behind(3, [("offer", 0, 4), ("send", ((1, 0), (1, 1)), ()), ("offer", 0, 3), ("send", (), ()),
                          ("send", ((1, 2),), ())])
        self.assertEqual([line.has(station) for station in range(3)], [[3, 4], [3, 4], [4, 3]])
        self.assertEqual(line.broken(), [("order", 3, 4)])
        self.assertEqual(line.tried(lambda held: held.fall(2) or held.broken()), [])
        self.assertEqual(line.tried(lambda held: held.fall(0) or held.broken()), [("order", 3, 4)])

    def test_order_counts_the_first_times(self):
        line = behind(2, [("offer", 0, 4), ("send", ((1, 0),), ()), ("offer", 0, 3), ("send", (), ()),
                          ("send", (), ())])
        self.assertEqual((line.has(0), line.has(1)), ([3, 4], [4, 3, 4]))
        self.assertEqual(line.broken(), [("once", 4, 1), ("order", 3, 4)])
        # Had again at last, the frame changes nothing of the order.
        line = behind(2, [("offer", 0, 4), ("send", ((1, 0),), ()), ("send", (), ()), ("offer", 1, 3),
                          ("send", (), ())])
        self.assertEqual((line.has(0), line.has(1)), ([4, 3], [4, 4, 3]))
        self.assertEqual(line.broken(), [("once", 4, 1)])

    def test_several_in_ascending_order(self):
        line = behind(3, [("offer", 0, 30), ("send", ((1, 0),), ()), ("offer", 0, 20), ("send", ((1, 0),), ()),
                          ("send", (), ()), ("send", ((1, 1),), ())])
        self.assertEqual([line.has(station) for station in range(3)],
                         [[20, 30], [30, 20, 20], [30, 20, 20, 30]])
        self.assertEqual(line.broken(), [("once", 20, 1), ("once", 20, 2), ("once", 30, 2), ("order", 20, 30)])
        line.offer(1, 25)
        line.send(wrong=[(1, 2)])
        self.assertEqual(line.broken(), [("all", 25), ("once", 20, 1), ("once", 20, 2), ("once", 30, 2),
                                         ("order", 20, 30)])


class TestDo(unittest.TestCase):
    def test_each_deed(self):
        line = Line(tiny(), 3)
        self.assertIsNone(line.do(("offer", 1, 7)))
        self.assertEqual(line.do(("send", ((0, 2), (1, 0)), ((1, 2),))), [(0, "lost"), (1, "done"), (2, None)])
        self.assertIsNone(line.do(deed=("fall", 0)))
        self.assertEqual(line.deeds, [("offer", 1, 7), ("send", ((0, 2), (1, 0)), ((1, 2),)), ("fall", 0)])

    def test_values_that_are_no_deeds(self):
        line = behind(3, [("offer", 1, 7)])
        expected = view(line)
        odd = ODD_VALUES + [
            ("offer",), ("offer", 1), ("offer", 1, 8, 8), ["offer", 1, 8], ("Offer", 1, 8), ("fall",), ("fall", 1, 1),
            ["fall", 1], ("undo",), ("send",), ("send", ()), ("send", (), (), ()), ["send", (), ()], ("send", [], ()),
            ("send", (), []), ("send", None, ()), ("send", (), None), ("send", ((1,),), ()), ("send", ((1, 0, 0),), ()),
            ("send", ([1, 0],), ()), ("send", ((1, 0), (0, 2)), ()), ("send", ((1, 0), (1, 0)), ()),
            ("send", (), ((1, 2), (1, 0))), ("send", (), ((1, 0), (1, 0))), ("send", ((True, 0),), ()),
            ("send", ((1, False),), ()), ("send", ((1, "0"),), ()), ("send", ((-1, 0),), ()), ("send", (), ((1, -1),)),
            ("send", ((None, 0),), ()), ("send", 1, ()), ("send", "", ()), ("send", {}, ()), (b"send", (), ()),
            (["send"], (), ()), (("send",), (), ()), ({}, 1, 8), (None, 1, 8), (True,), ((), ()),
        ]
        for value in odd:
            self.assertEqual(error_told(line.do, value), ("error", "BadDeed", (0,)), value)
        self.assertEqual(view(line), expected)

    def test_any_values_as_station_and_frame(self):
        line = Line(tiny(), 2)
        for value in ODD_VALUES:
            if value not in (0, 1) or isinstance(value, bool):
                self.assertEqual(error_told(line.do, ("offer", value, value)), ("error", "NoStation", (value,)))
                self.assertEqual(error_told(line.do, ("fall", value)), ("error", "NoStation", (value,)))
            if value not in (0, 1, 2) or isinstance(value, bool):
                self.assertEqual(error_told(line.do, ("offer", 0, value)), ("error", "BadFrame", (value,)))
        self.assertEqual(line.deeds, [])

    def test_errors_of_the_methods(self):
        line = Line(LASTING, 3)
        self.assertEqual(error_told(line.do, ("send", (), ())), ("error", "NothingWaits", ()))
        line.offer(0, 5)
        self.assertEqual(error_told(line.do, ("offer", 1, 5)), ("error", "Taken", (5,)))
        self.assertEqual(error_told(line.do, ("send", ((1, 7),), ())), ("error", "BadFault", (1, 7)))
        self.assertEqual(error_told(line.do, ("send", ((1, 2),), ((1, 2),))), ("error", "BadFault", (1, 2)))
        self.assertEqual(error_told(line.do, ("send", ((6000, 1),), ())), ("error", "BadFault", (6000, 1)))
        self.assertEqual(error_told(line.do, ("send", ((0, 1),), ())), ("error", "Endless", (1, 1)))
        line.fall(1)
        line.fall(2)
        self.assertEqual(error_told(line.do, ("send", (), ())), ("error", "NoHearer", ()))


class TestUndo(unittest.TestCase):
    def test_nothing_to_undo(self):
        line = Line(tiny(), 2)
        self.assertEqual(error_told(line.undo), ("error", "NothingToUndo", ()))
        line.offer(0, 1)
        self.assertIsNone(line.undo())
        self.assertEqual(error_told(line.undo), ("error", "NothingToUndo", ()))

    def test_each_deed_is_taken_back(self):
        deeds = [("offer", 0, 4), ("offer", 1, 9), ("send", ((1, 0),), ()), ("offer", 2, 3), ("send", (), ((1, 2),)),
                 ("send", (), ()), ("offer", 1, 1), ("fall", 1), ("fall", 3), ("fall", 0)]
        line = Line(tiny(), 4)
        views = [view(line)]
        for deed in deeds:
            line.do(deed)
            views.append(view(line))
        for expected in views[-2::-1]:
            line.undo()
            self.assertEqual(view(line), expected)

    def test_what_was_taken_back_can_be_done_again(self):
        line = behind(2, [("offer", 0, 4)])
        line.undo()
        line.offer(1, 4)
        self.assertEqual(line.waiting, [(4, 1)])
        line.fall(1)
        line.undo()
        self.assertEqual((line.awake, line.waiting), ([0, 1], [(4, 1)]))
        line.send()
        line.undo()
        line.send()
        self.assertEqual((line.has(0), line.has(1)), ([4], [4]))

    def test_many_deeds(self):
        line = Line(tiny(), 2)
        for frame in range(3000):
            line.offer(0, frame)
        self.assertEqual((len(line.deeds), len(line.waiting)), (3000, 3000))
        for frame in range(3000):
            line.undo()
        self.assertEqual((line.deeds, repr(line)), ([], "Line(2 stations, 0 frames)"))


class Stop(Exception):
    """An error of a caller."""


class TestTrials(unittest.TestCase):
    def setUp(self):
        self.line = behind(3, [("offer", 0, 4), ("send", ((1, 0),), ()), ("offer", 1, 2)])
        self.before = view(self.line)

    def test_the_line_is_given_and_is_as_before(self):
        with self.line.trial() as held:
            self.assertIs(held, self.line)
            held.send()
            held.fall(2)
            held.offer(0, 77)
            self.assertEqual((held.has(0), held.awake, 77 in self.line), ([2], [0, 1], True))
        self.assertEqual(view(self.line), self.before)
        self.line.send()
        self.assertEqual(self.line.has(2), [4, 2])

    def test_deeds_taken_back_inside(self):
        with self.line.trial():
            for number in range(3):
                self.line.undo()
            self.line.offer(2, 1)
            self.assertEqual(self.line.deeds, [("offer", 2, 1)])
        self.assertEqual(view(self.line), self.before)
        self.line.undo()
        self.assertEqual(self.line.deeds, [("offer", 0, 4), ("send", ((1, 0),), ())])

    def test_errors_propagate(self):
        with self.assertRaises(Stop):
            with self.line.trial() as held:
                held.fall(0)
                raise Stop
        self.assertEqual(view(self.line), self.before)
        with self.assertRaises(Taken):
            with self.line.trial() as held:
                held.send()
                held.offer(0, 4)
        self.assertEqual(view(self.line), self.before)

    def test_the_beginning_is_that_of_the_block(self):
        held = self.line.trial()
        self.line.fall(2)
        behind_fall = view(self.line)
        with held:
            self.line.fall(0)
        self.assertEqual(view(self.line), behind_fall)
        self.line.fall(0)
        behind_both = view(self.line)
        with held:
            self.line.undo()
        self.assertEqual(view(self.line), behind_both)

    def test_inside_each_other(self):
        with self.line.trial():
            self.line.fall(2)
            inner = view(self.line)
            with self.line.trial():
                self.line.send()
            self.assertEqual(view(self.line), inner)
        self.assertEqual(view(self.line), self.before)

    def test_one_object_inside_itself(self):
        held = self.line.trial()
        with held:
            self.line.fall(2)
            inner = view(self.line)
            with held:
                self.line.send()
            self.assertEqual(view(self.line), inner)
        self.assertEqual(view(self.line), self.before)

    def test_tried(self):
        self.assertEqual(self.line.tried(lambda held: held.send()), [(0, "taken"), (1, "done"), (2, "taken")])
        self.assertEqual(view(self.line), self.before)
        self.assertEqual(self.line.tried(function=lambda held: held is self.line), True)
        self.assertIsNone(self.line.tried(Line.undo))
        self.assertEqual(view(self.line), self.before)

    def test_tried_with_errors(self):
        def stop(held):
            held.fall(0)
            raise Stop
        with self.assertRaises(Stop):
            self.line.tried(stop)
        self.assertEqual(view(self.line), self.before)
        with self.assertRaises(BadDeed):
            self.line.tried(lambda held: [held.fall(0), held.do(None)])
        self.assertEqual(view(self.line), self.before)


class TestHas(unittest.TestCase):
    def test_any_value(self):
        line = behind(3, [("offer", 0, 4), ("send", (), ())])
        self.assertEqual(line.has(station=2), [4])
        for station in (3, -1, 10 ** 39, True, False, None, "0", (0,), [0], {}):
            self.assertEqual(error_told(line.has, station), ("error", "NoStation", (station,)))

    def test_in(self):
        line = behind(3, [("offer", 0, 0), ("offer", 0, 1), ("offer", 1, 4)])
        self.assertEqual([frame for frame in (0, 1, 2, 3, 4) if frame in line], [0, 1, 4])
        for value in (True, False, None, "0", (0,), [0], {0: 0}, ((0, 0),)):
            self.assertFalse(value in line)
        line.send()
        self.assertEqual([frame for frame in (0, 1, 2, 3, 4) if frame in line], [1, 4])


class TestReplayed(unittest.TestCase):
    def test_a_line_behind_deeds(self):
        deeds = [("offer", 0, 4), ("send", ((1, 0),), ()), ("offer", 1, 2), ("fall", 2), ("send", (), ())]
        line = Line.replayed(tiny(), 3, deeds)
        self.assertEqual(view(line), view(behind(3, deeds)))
        self.assertEqual((line.deeds, type(line)), (deeds, Line))
        self.assertEqual(Line.replayed(tiny(), 3, tuple(deeds)).deeds, deeds)
        self.assertEqual(Line.replayed(deeds=line.deeds, stations=3, end=tiny()).deeds, deeds)
        self.assertEqual(Line.replayed(tiny(), 2, ()).deeds, [])

    def test_later_changes_have_no_effect(self):
        deeds = [("offer", 0, 4)]
        line = Line.replayed(tiny(), 3, deeds)
        deeds.append(("fall", 0))
        line.fall(1)
        self.assertEqual((line.deeds, deeds), ([("offer", 0, 4), ("fall", 1)], [("offer", 0, 4), ("fall", 0)]))

    def check(self, index, deeds, end=None, stations=3):
        with self.assertRaises(BadDeed) as caught:
            Line.replayed(end or tiny(), stations, deeds)
        self.assertEqual(caught.exception.index, index)

    def test_values_that_are_no_lists(self):
        for value in ODD_VALUES + [{0: ("offer", 0, 4)}, "offer"]:
            if value not in ((), []):
                self.check(0, value)

    def test_items_that_are_no_deeds(self):
        for value in ODD_VALUES:
            self.check(0, [value])
            self.check(2, (("offer", 0, 4), ("fall", 2), value, None))
        self.check(1, [("offer", 0, 4), ["fall", 2], ("fall", 1)])
        self.check(1, [("offer", 0, 4), ("send", ((1, 0), (0, 1)), ())])

    def test_deeds_that_cannot_be_done(self):
        offer = ("offer", 0, 4)
        self.check(0, [("offer", 3, 4)])
        self.check(1, [offer, ("offer", 0, 10 ** 7)])
        self.check(1, [offer, ("offer", 1, 4)])
        self.check(2, [offer, ("fall", 2), ("fall", 2)])
        self.check(0, [("send", (), ())])
        self.check(3, [offer, ("fall", 2), ("fall", 1), ("send", (), ())])
        self.check(1, [offer, ("send", ((2, 1),), ())])
        self.check(1, [offer, ("send", ((0, 1),), ()), ("fall", 1)], LASTING)
        self.check(1, [offer, ("offer", [], {})])


class TestAgainstThePlainModel(unittest.TestCase):
    def deed(self, source, stations):
        """Any deed, most often one that can be done."""
        sort = source.choice(("offer", "send", "send", "send", "fall"))
        if sort == "fall":
            return ("fall", source.randrange(stations + 1)) if source.randrange(3) == 0 else self.deed(source, stations)
        if sort == "offer":
            return "offer", source.randrange(stations + source.randrange(2)), source.randrange(12) - source.randrange(2)
        faults = [set(), set()]
        for number in range(source.randrange(4)):
            silent = source.randrange(4) == 0
            faults[silent].add((source.randrange(1 if silent else 0, 3), source.randrange(stations)))
        return "send", tuple(sorted(faults[0])), tuple(sorted(faults[1]))

    def check(self, source, end, stations, many):
        line, model = Line(end, stations), PlainLine(end, stations)
        names, broken = [], []
        for number in range(many):
            deed = self.deed(source, stations)
            expected = model.tell(deed)
            self.assertEqual(error_told(line.do, deed), expected, (str(end), model.deeds, deed))
            names.append(expected[1] if expected[0] == "error" else "did")
            if source.randrange(12) == 0 and model.deeds:
                line.undo()
                model.deeds.pop()
                model.results.pop()
            self.assertEqual(line.deeds, model.deeds)
            self.assertEqual((line.waiting, line.awake), (model.waiting(), model.awake()))
            self.assertEqual([line.has(station) for station in range(stations)],
                             [model.has(station) for station in range(stations)])
            broken.extend(line.broken())
            self.assertEqual(line.broken(), model.broken(), (str(end), model.deeds))
            self.assertEqual(repr(line), f"Line({stations} stations, {len(model.offered())} frames)")
        self.assertEqual(view(Line.replayed(end, stations, line.deeds)), view(line))
        return names, broken

    def test_random_histories(self):
        source = random.Random(23)
        names, broken = [], []
        for number in range(160):
            end = tiny() if number % 2 == 0 else source.choice([
                voting_end(2, needed=2), voting_end(2, needed=1, rounds=2), random_end(source, 3)])
            told = self.check(source, end, source.randint(2, 5), 25)
            names.extend(told[0])
            broken.extend(told[1])
        for name in ("did", "NoStation", "BadFrame", "Taken", "NothingWaits", "NoHearer", "BadFault", "Endless"):
            self.assertGreater(names.count(name), 5, name)
        for promise in ("all", "once", "order"):
            self.assertGreater(len([told for told in broken if told[0] == promise]), 5, promise)


if __name__ == "__main__":
    unittest.main()

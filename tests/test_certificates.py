"""Promise [26]: certificates and their check."""

import copy
import unittest
from itertools import product

from strongbit.certificates import certificate
from strongbit.checker import shows
from strongbit.ends import End
from strongbit.errors import NoPromise, TooMany, Unsound
from strongbit.families import counted_end, standard_end, voting_end
from strongbit.judging import judge
from strongbit.standings import is_over, moves, standings, starts

from models import sound_ends
from samples import ODD_VALUES, tiny

PROMISES = ("all", "once", "order", "rest")

# Two hearers or more and the sender hear 2 bits each, of which none warns alone.
VOTES = voting_end(2, needed=2)

# A hearer that hears the body wrongly and then a bit 0 waits for another one.
RING = End([(1, "lost", "taken"), (1, 2, "lost"), (1, "lost", 2)], [(1, "again", "done")])

NEVER = End([(1, 0, 0), (1, "lost", "lost")], [(1, "done", "done")])

OFFER = ("offer", 0, 0)
CLEAN = ("send", (), ())


class TestCertificate(unittest.TestCase):
    def check(self, end, promise, wrong, silent):
        """The first word of a certificate, once it is seen to have its form and to be shown."""
        told = certificate(end, promise, wrong, silent=silent)
        kept = copy.deepcopy(told)
        place = (str(end), promise, wrong, silent)
        self.assertIs(type(told), tuple, place)
        self.assertIs(shows(end, promise, wrong, told, silent=silent), True, place)
        self.assertIs(shows(end, promise, wrong, told, silent=silent), True, place)
        self.assertEqual(told, kept)
        self.assertEqual(certificate(end, promise, wrong, silent=silent), told)
        self.assertIsNot(certificate(end, promise, wrong, silent=silent)[-1], told[-1])
        self.assertIs(type(told[-1]), list)
        breaks = judge(end, promise, wrong, silent=silent) is not None
        self.assertEqual(told[0] == "broken", breaks, place)
        if not breaks:
            self.assertEqual(told[0], "falling" if promise == "rest" else "closed")
        return told[0]

    def test_small_ends(self):
        met = {}
        for end in sound_ends(131, 15, 3) + [tiny(), VOTES, RING, voting_end(3, needed=2, rounds=2)]:
            for promise, wrong, silent in product(PROMISES, (0, 1, 2), (True, False)):
                met[(promise, self.check(end, promise, wrong, silent))] = True
            for promise, silent in product(PROMISES, (True, False)):
                self.check(end, promise, 3, silent)
        self.assertEqual(sorted(met), [("all", "broken"), ("all", "closed"), ("once", "broken"), ("once", "closed"),
                                       ("order", "broken"), ("order", "closed"), ("rest", "broken"),
                                       ("rest", "falling")])

    def test_families(self):
        for end in (voting_end(6, needed=4), counted_end(3, hearer=2, sender=3, flag=2, gap=2)):
            for promise, silent in product(PROMISES, (True, False)):
                self.check(end, promise, 2, silent)
        self.check(standard_end(), "rest", 2, True)
        self.check(standard_end(), "all", 1, False)
        self.check(voting_end(6, needed=4), "all", 3, False)

    def test_tiny(self):
        told = certificate(tiny(), "all", 0, silent=False)
        self.assertEqual((told[0], sorted(told[1], key=repr)),
                         ("closed", [(0, "done", "taken", 1, ()), (0, 0, 0, 1, ())]))
        told = certificate(tiny(), "rest", 0, silent=False)
        self.assertEqual(told[0], "falling")
        self.assertEqual([standing for standing, number in sorted(told[1], key=lambda pair: pair[1])],
                         [(0, "done", "taken", 1, ()), (0, 0, 0, 1, ())])
        self.assertEqual(certificate(tiny(), "all", 1, silent=False), ("broken", 2, [OFFER, ("send", ((1, 1),), ())]))

    def test_arguments(self):
        self.assertEqual(certificate(wrong=1, promise="once", end=tiny(), silent=True), certificate(tiny(), "once", 1))

    def test_errors_as_judge(self):
        for value in ODD_VALUES + ["All", ("all",), ["rest"]]:
            for end in (NEVER, tiny(), standard_end()):
                with self.assertRaises(NoPromise) as caught:
                    certificate(end, value, 3)
                self.assertIs(caught.exception.promise, value)
        for promise in PROMISES:
            with self.assertRaises(Unsound):
                certificate(NEVER, promise, 3)
            with self.assertRaises(TooMany) as caught:
                certificate(standard_end(), promise, 3)
            self.assertEqual(caught.exception.limit, 5000)


class Shown(unittest.TestCase):
    """What the tests of shows have in common."""

    def see(self, expected, end, promise, wrong, things, silent=True):
        for thing in things:
            self.assertIs(shows(end, promise, wrong, thing, silent=silent), expected, thing)

    def no(self, end, promise, wrong, *things, silent=True):
        self.see(False, end, promise, wrong, things, silent)

    def yes(self, end, promise, wrong, *things, silent=True):
        self.see(True, end, promise, wrong, things, silent)


class TestClosed(Shown):
    def test_a_standing_left_out(self):
        for silent in (True, False):
            found = certificate(VOTES, "all", 1, silent=silent)[1]
            for index in range(len(found)):
                self.no(VOTES, "all", 1, ("closed", found[:index] + found[index + 1:]), silent=silent)
        self.no(VOTES, "all", 0, ("closed", []), ("closed", starts(0)))

    def test_a_standing_twice(self):
        found = certificate(VOTES, "once", 1)[1]
        for standing in found:
            self.no(VOTES, "once", 1, ("closed", found + [standing]), ("closed", [standing] + found))

    def test_any_order(self):
        found = certificate(VOTES, "order", 1)[1]
        self.yes(VOTES, "order", 1, ("closed", found[::-1]), ("closed", sorted(found, key=repr)))

    def test_standings_that_cannot_come_about(self):
        found = certificate(VOTES, "all", 1, silent=False)[1]
        further = (0, "again", "lost", 1, ())
        self.assertNotIn(further, found)
        self.yes(VOTES, "all", 1, ("closed", found + [further]), silent=False)
        # A further one that is not over needs those behind it, too.
        further = (0, "again", 0, 1, ())
        behind = standings_behind(VOTES, further, False)
        self.yes(VOTES, "all", 1, ("closed", found + [standing for standing in behind if standing not in found]),
                 silent=False)
        self.no(VOTES, "all", 1, ("closed", found + [further]), silent=False)

    def test_further_standings_that_break_the_promise(self):
        found = certificate(VOTES, "all", 1, silent=False)[1]
        done, both = (0, "done", "lost", 1, ()), (1, "silent", "taken", 1, ("lost",))
        self.no(VOTES, "all", 1, ("closed", found + [done]), silent=False)
        self.yes(VOTES, "once", 1, ("closed", found + [done]), silent=False)
        # Without silences a sender that is silent breaks nothing.
        self.yes(VOTES, "all", 1, ("closed", found + [both]), ("closed", found + [(0, "again", "taken", 1, ("lost",))]),
                 silent=False)
        found = certificate(VOTES, "all", 1)[1]
        self.no(VOTES, "all", 1, ("closed", found + [both]), ("closed", found + [(0, "again", "taken", 1, ("lost",))]))
        self.yes(VOTES, "once", 1, ("closed", found + [both]))
        for standing in [(0, "again", "taken", 1, ()), (0, "again", "lost", 1, ("taken",)),
                         (0, "again", None, 0, ("taken",))]:
            self.no(VOTES, "once", 1, ("closed", found + [standing]))
            self.no(VOTES, "order", 1, ("closed", found + [standing]))

    def test_left(self):
        found = certificate(VOTES, "all", 1)[1]
        for left in (2, 3, 4):
            self.no(VOTES, "all", 1, ("closed", found + [(left, "done", "taken", 1, ())]))
        self.yes(VOTES, "all", 1, ("closed", found + [(1, "done", "taken", 1, ("taken",))]))
        self.no(VOTES, "all", 0, ("closed", found))
        self.no(VOTES, "all", 2, ("closed", found))
        # Those with no wrong bit left have only such ones behind them, but they have not all starts for 0.
        least = [standing for standing in found if standing[0] == 0]
        self.no(VOTES, "all", 0, ("closed", least))
        more = [standing for standing in certificate(VOTES, "all", 0)[1] if standing not in least]
        self.yes(VOTES, "all", 0, ("closed", least + more))

    def test_standings_put_otherwise(self):
        found = certificate(VOTES, "all", 1)[1]
        for index, (left, sender, crowd, many, hit) in enumerate(found):
            others = [[left, sender, crowd, many, hit], (left, sender, crowd, many, list(hit)),
                      (left, sender, crowd, many), (left, sender, crowd, many, hit, ()),
                      (left, sender, crowd, str(many), hit),
                      (left, sender, crowd, many + 2, hit), (left, sender, crowd, many, hit + (0, 0, 0, 0, 0)),
                      (left, "taken", crowd, many, hit), (left, sender, "done", many, hit), None, {}, ()]
            if left in (0, 1):
                others.append((bool(left), sender, crowd, many, hit))
            if many in (0, 1):
                others.append((left, sender, crowd, bool(many), hit))
            for other in others:
                self.no(VOTES, "all", 1, ("closed", found[:index] + [other] + found[index + 1:]),
                        ("closed", found + [other]))
        self.no(VOTES, "all", 1, ("closed", found + [(0, "done", "taken", 1, ("taken", "lost"))]))

    def test_lists_and_tuples(self):
        found = certificate(VOTES, "all", 1)[1]
        self.no(VOTES, "all", 1, ["closed", found], ("closed", tuple(found)), ("closed", {0: found}),
                ("closed", {standing: True for standing in found}), ("closed", found, []), ("closed",), "closed",
                ("Closed", found), (("closed",), found), ("falling", found), ("broken", found), ("closed", [found]))

    def test_another_end_or_promise_or_bound(self):
        found = certificate(VOTES, "all", 1)
        self.yes(VOTES, "once", 1, found)
        self.yes(VOTES, "order", 1, found)
        self.no(VOTES, "rest", 1, found)
        for end in (tiny(), RING, voting_end(3, needed=2), voting_end(2, needed=2, rounds=2)):
            self.no(end, "all", 1, found)
            self.no(end, "once", 1, found)
        # All that can come about without silences can with them, but not the other way around.
        self.yes(VOTES, "all", 1, found, silent=False)
        self.no(VOTES, "all", 1, certificate(VOTES, "all", 1, silent=False))

    def test_closed_lists_of_ends_that_break_the_promise(self):
        for end, promise, silent in product((tiny(), VOTES), PROMISES[:3], (True, False)):
            found = standings(end, 2, silent=silent)
            self.no(end, promise, 2, ("closed", found), silent=silent)
            over = [standing for standing in found if not is_over(standing)]
            self.no(end, promise, 2, ("closed", over), silent=silent)


def standings_behind(end, standing, silent):
    """All standings to which moves lead from a standing, itself included."""
    found = [standing]
    for one in found:
        found.extend(moved for moved in moves(end, one, silent=silent) if moved not in found)
    return found


class TestFalling(Shown):
    def test_numbers(self):
        for silent in (True, False):
            pairs = certificate(VOTES, "rest", 1, silent=silent)[1]
            top = max(number for standing, number in pairs)
            for more in (1, 7, 10 ** 6 - top):
                self.yes(VOTES, "rest", 1, ("falling", [(standing, number + more) for standing, number in pairs]),
                         silent=silent)
            self.yes(VOTES, "rest", 1, ("falling", [(standing, number * 5) for standing, number in pairs]),
                     silent=silent)
            for more in (-1, 10 ** 6 - top + 1, 10 ** 39):
                self.no(VOTES, "rest", 1, ("falling", [(standing, number + more) for standing, number in pairs]),
                        silent=silent)

    def test_one_number_put_otherwise(self):
        pairs = certificate(VOTES, "rest", 1)[1]
        heights = dict(pairs)
        for index, (standing, number) in enumerate(pairs):
            def put(value):
                return "falling", pairs[:index] + [(standing, value)] + pairs[index + 1:]

            self.no(VOTES, "rest", 1, *[put(value) for value in (-1, 10 ** 6 + 1, None, True, False, "0", (), [], {})])
            behind = [heights[moved] for moved in moves(VOTES, standing)]
            for value in behind:
                self.no(VOTES, "rest", 1, put(value))
            if not [one for one in heights if standing in moves(VOTES, one)]:
                self.yes(VOTES, "rest", 1, put(10 ** 6), put(max(behind) + 1))
        self.no(VOTES, "rest", 1, ("falling", [(standing, 0) for standing, number in pairs]))
        self.no(VOTES, "rest", 1, ("falling", [(standing, 10 - number) for standing, number in pairs]))

    def test_standings(self):
        pairs = certificate(VOTES, "rest", 1)[1]
        for index, (standing, number) in enumerate(pairs):
            self.no(VOTES, "rest", 1, ("falling", pairs[:index] + pairs[index + 1:]),
                    ("falling", pairs + [pairs[index]]),
                    ("falling", pairs + [(standing, number + 1)]), ("falling", pairs + [(list(standing), number)]),
                    ("falling", pairs[:index] + [(list(standing), number)] + pairs[index + 1:]),
                    ("falling", pairs[:index] + [[standing, number]] + pairs[index + 1:]),
                    ("falling", pairs[:index] + [(number, standing)] + pairs[index + 1:]),
                    ("falling", pairs[:index] + [(standing, number, 0)] + pairs[index + 1:]),
                    ("falling", pairs[:index] + [standing] + pairs[index + 1:]))
        self.no(VOTES, "rest", 1, ("falling", pairs + [((2, "done", "taken", 1, ()), 0)]), ("falling", []))
        self.yes(VOTES, "rest", 1, ("falling", pairs + [((0, "silent", None, 0, ("lost",) * 4), 10 ** 6)]),
                 ("falling", pairs[::-1]))

    def test_words_of_promises_do_not_matter_for_rest(self):
        pairs = certificate(VOTES, "rest", 1)[1]
        self.yes(VOTES, "rest", 1, ("falling", pairs + [((0, "done", "lost", 1, ("lost",) * 4), 0)]))
        for promise in ("all", "once", "order"):
            self.no(VOTES, promise, 1, ("falling", pairs), ("closed", pairs), ("falling", [pair[0] for pair in pairs]))

    def test_rings(self):
        found = standings(RING, 2, silent=False)
        for numbers in (range(len(found)), range(len(found), 0, -1), [0] * len(found)):
            self.no(RING, "rest", 2, ("falling", list(zip(found, numbers))), silent=False)
        self.yes(RING, "rest", 1, certificate(RING, "rest", 1))

    def test_lists_and_tuples_and_others(self):
        pairs = certificate(VOTES, "rest", 1)[1]
        self.no(VOTES, "rest", 1, ["falling", pairs], ("falling", tuple(pairs)), ("falling", dict(pairs)),
                ("falling", pairs, []), ("falling",), ("closed", pairs), ("broken", pairs), ("falling", [pairs]))
        for end in (tiny(), RING, voting_end(3, needed=2)):
            self.no(end, "rest", 1, ("falling", pairs))
        self.no(VOTES, "rest", 0, ("falling", pairs))
        self.no(VOTES, "rest", 2, ("falling", pairs))
        self.yes(VOTES, "rest", 1, ("falling", pairs), silent=False)
        self.no(VOTES, "rest", 1, certificate(VOTES, "rest", 1, silent=False))


class TestBroken(Shown):
    def test_deeds_left_out(self):
        for promise, silent in product(("all", "once", "order"), (True, False)):
            word, stations, deeds = certificate(tiny(), promise, 1, silent=silent)
            self.assertEqual(word, "broken")
            for index in range(len(deeds)):
                self.no(tiny(), promise, 1, ("broken", stations, deeds[:index] + deeds[index + 1:]), silent=silent)
            self.no(tiny(), promise, 1, ("broken", stations, []), ("broken", stations, deeds[::-1]), silent=silent)

    def test_deeds_exchanged(self):
        word, stations, deeds = certificate(tiny(), "order", 1)
        for index in range(len(deeds)):
            for deed in (CLEAN, ("offer", 1, 5), ("undo",), (), None, ("fall", 0), ("offer", 0, -1), ("offer", 9, 9),
                         ("send", (), ((1, 0),)), ["send", (), ()], ("send", [], []), ("send", ((1, 0), (0, 1)), ())):
                told = deeds[:index] + [deed] + deeds[index + 1:]
                if told != deeds:
                    self.no(tiny(), "order", 1, ("broken", stations, told))

    def test_all_once_and_order(self):
        lost = ("send", ((1, 1),), ())
        self.yes(tiny(), "all", 1, ("broken", 2, [OFFER, lost]), ("broken", 20, [OFFER, lost]),
                 ("broken", 2, [("offer", 1, 5), ("send", ((1, 0),), ())]),
                 ("broken", 3, [("fall", 2), OFFER, lost]),
                 ("broken", 2, [OFFER, CLEAN, ("offer", 1, 3), ("send", ((1, 0),), ())]))
        self.no(tiny(), "all", 1, ("broken", 2, [OFFER, CLEAN]), ("broken", 2, [OFFER, lost, CLEAN]),
                ("broken", 2, [OFFER, lost, ("fall", 1)]), ("broken", 2, [lost]))
        again = ("send", ((1, 0),), ())
        self.yes(tiny(), "once", 1, ("broken", 2, [OFFER, again, CLEAN]), ("broken", 2, [OFFER, again, again]))
        self.no(tiny(), "once", 1, ("broken", 2, [OFFER, again]), ("broken", 2, [OFFER, again, CLEAN, ("fall", 1)]),
                ("broken", 2, [OFFER, again, again, CLEAN, CLEAN]))
        self.yes(tiny(), "order", 1, ("broken", 2, [("offer", 0, 1), again, OFFER, CLEAN, CLEAN]),
                 ("broken", 2, [("offer", 0, 9), again, ("offer", 0, 5), CLEAN, CLEAN, ("offer", 1, 8)]))
        self.no(tiny(), "order", 1, ("broken", 2, [OFFER, again, ("offer", 0, 1), CLEAN, CLEAN]),
                ("broken", 2, [("offer", 0, 1), again, OFFER, CLEAN]))
        self.no(tiny(), "once", 1, ("broken", 2, [OFFER, lost]))
        self.no(tiny(), "rest", 1, ("broken", 2, [OFFER, lost]), ("broken", 2, [OFFER, again, CLEAN]))

    def test_more_promises_broken_at_once(self):
        told = ("broken", 2, [("offer", 0, 1), ("send", ((1, 0),), ()), OFFER, CLEAN, CLEAN])
        self.yes(tiny(), "once", 1, told)
        self.yes(tiny(), "order", 1, told)
        self.no(tiny(), "all", 1, told)
        told = ("broken", 2, told[2] + [("offer", 1, 7), ("send", ((1, 0),), ())])
        for promise in ("all", "once", "order"):
            self.yes(tiny(), promise, 1, told)

    def test_wrong_bits_in_each_sending(self):
        two = ("send", ((1, 1), (1, 2)), ())
        self.no(tiny(), "all", 1, ("broken", 3, [OFFER, two]))
        self.yes(tiny(), "all", 2, ("broken", 3, [OFFER, two]))
        self.yes(tiny(), "all", 3, ("broken", 3, [OFFER, two]))
        self.no(tiny(), "all", 0, ("broken", 3, [OFFER, ("send", ((1, 1),), ())]))
        # Each sending may have so many of its own, also those that break nothing; one with more is one too many.
        one = ("send", ((1, 1),), ())
        self.yes(tiny(), "all", 1, ("broken", 3, [OFFER, one, ("offer", 0, 1), one, ("offer", 0, 2), one]))
        self.no(tiny(), "all", 1, ("broken", 3, [OFFER, two, ("offer", 0, 1), one]))

    def test_silences(self):
        fall = ("broken", 3, [("fall", 2), OFFER, ("send", ((1, 1),), ())])
        silent = ("broken", 3, [OFFER, ("send", ((1, 1),), ((1, 2),))])
        for told in (fall, silent):
            self.yes(tiny(), "all", 1, told)
            self.no(tiny(), "all", 1, told, silent=False)
        told = certificate(VOTES, "all", 2)
        self.yes(VOTES, "all", 2, told)
        for wrong in (0, 1):
            self.no(VOTES, "all", wrong, told)
        self.no(standard_end(), "all", 1, certificate(standard_end(), "all", 1), silent=False)

    def test_numbers_of_stations(self):
        lost = ("send", ((1, 1),), ())
        for stations in (2, 3, 19, 20):
            self.yes(tiny(), "all", 1, ("broken", stations, [OFFER, lost]))
        for stations in (-1, 0, 1, 21, 10 ** 39, True, False, None, "2", (2,), [2], {}):
            self.no(tiny(), "all", 1, ("broken", stations, [OFFER, lost]))

    def test_rest(self):
        endless = ("send", ((0, 1), (1, 1)), ())
        self.assertEqual(certificate(RING, "rest", 2, silent=False), ("broken", 2, [OFFER, endless]))
        self.yes(RING, "rest", 2, ("broken", 2, [OFFER, CLEAN, ("offer", 0, 1), endless]),
                 ("broken", 3, [("fall", 2), OFFER, endless]), ("broken", 5, [OFFER, endless]))
        self.no(RING, "rest", 2, ("broken", 2, [OFFER, endless, CLEAN]), ("broken", 2, [OFFER, CLEAN]),
                ("broken", 2, [endless]), ("broken", 2, []), ("broken", 2, [OFFER]),
                ("broken", 2, [OFFER, endless, endless]),
                ("broken", 2, [OFFER, ("fall", 1), endless]), ("broken", 2, [OFFER, ("send", ((0, 1), (9, 1)), ())]),
                ("broken", 2, [("offer", 2, 0), endless]), ("broken", 2, [OFFER, ("fall", 0)]),
                ("broken", 2, [OFFER, ("fall", 7)]), ("broken", 2, [OFFER, ("offer", 0, 0)]))
        self.no(RING, "rest", 2, ("broken", 3, [("fall", 2), OFFER, endless]), silent=False)
        for wrong in (0, 1):
            self.no(RING, "rest", wrong, ("broken", 2, [OFFER, endless]))
        for promise in ("all", "once", "order"):
            self.no(RING, promise, 2, ("broken", 2, [OFFER, endless]))

    def test_lists_and_tuples(self):
        word, stations, deeds = certificate(tiny(), "once", 1)
        self.no(tiny(), "once", 1, [word, stations, deeds], (word, stations, tuple(deeds)), (word, (stations, deeds)),
                (word, stations, [list(deed) for deed in deeds]), (word, stations, deeds, []), (stations, deeds),
                (word, deeds, stations), ("Broken", stations, deeds), ("closed", stations, deeds),
                (word, stations, [(deed[0], *[list(part) if isinstance(part, tuple) else part for part in deed[1:]])
                                  for deed in deeds]), (word, stations, {0: deeds[0]}), (word, stations, None))
        self.no(tiny(), "all", 1, ("broken", 2, [OFFER, ("send", ([1, 1],), ())]),
                ("broken", 2, [OFFER, ("send", ((True, 1),), ())]), ("broken", 2, [OFFER, ("send", ((1, True),), ())]),
                ("broken", 2, [("offer", False, 0), ("send", ((1, 1),), ())]),
                ("broken", 2, [("offer", 0, False), ("send", ((1, 1),), ())]),
                ("broken", 2, [OFFER, ("send", ((1, 1), (1, 1)), ())]))


class TestShows(Shown):
    def test_any_values(self):
        odd = ODD_VALUES + [("closed", value) for value in ODD_VALUES] + [("falling", value) for value in ODD_VALUES]
        odd += [("closed", [value]) for value in ODD_VALUES] + [("falling", [(value, value)]) for value in ODD_VALUES]
        odd += [("broken", value, value) for value in ODD_VALUES] + [("broken", 2, [value]) for value in ODD_VALUES]
        odd += [("broken", 2, [OFFER, ("send", value, ())]) for value in ODD_VALUES]
        odd += [("broken", 2, [("offer", value, value)]) for value in ODD_VALUES]
        odd += [("broken", 2, [OFFER, ("fall", value)]) for value in ODD_VALUES]
        odd += [(value, [], []) for value in ODD_VALUES] + [(value, []) for value in ODD_VALUES]
        odd += [("falling", [((0, 0, 0, 1, ()), value)]) for value in ODD_VALUES]
        odd += [("closed", [(0, 0, 0, 1, value)]) for value in ODD_VALUES]
        for promise, silent in product(PROMISES, (True, False)):
            self.no(tiny(), promise, 1, *odd, silent=silent)

    def test_errors(self):
        for value in ODD_VALUES + ["All", ("all",), ["rest"]]:
            for end in (NEVER, tiny()):
                with self.assertRaises(NoPromise) as caught:
                    shows(end, value, 3, ("closed", []))
                self.assertIs(caught.exception.promise, value)
        for promise in PROMISES:
            for thing in (None, ("closed", []), ("broken", 2, [])):
                with self.assertRaises(Unsound):
                    shows(NEVER, promise, 3, thing)
        # Certificates may have any length, so more than 5000 standings are no error.
        self.no(standard_end(), "all", 3, ("closed", starts(3)), ("falling", []))

    def test_long_lists(self):
        found = certificate(standard_end(), "rest", 2)[1]
        self.assertGreater(len(found), 2000)
        self.no(standard_end(), "rest", 2, ("falling", found[:-1]), ("falling", found[1:]), ("falling", found * 3))

    def test_arguments(self):
        told = certificate(tiny(), "all", 1)
        self.assertIs(shows(thing=told, wrong=1, promise="all", end=tiny(), silent=True), True)
        self.assertIs(shows(tiny(), "all", 1, certificate(tiny(), "all", 1, silent=False)), True)
        self.assertIs(shows(VOTES, "all", 1, certificate(VOTES, "all", 1, silent=False)), False)
        self.assertIs(shows(VOTES, "all", 1, certificate(VOTES, "all", 1)), True)


if __name__ == "__main__":
    unittest.main()

"""The check of certificates, which may be any values."""

from strongbit.deeds import is_deed
from strongbit.errors import BadDeed, BadFault, Endless, NoHearer, NothingWaits
from strongbit.judging import check_judged
from strongbit.lines import FEWEST_STATIONS, MOST_STATIONS, Line
from strongbit.machines import is_number
from strongbit.promises import breaks, outcome_at
from strongbit.standings import is_over, is_standing, moves, starts

# The greatest number beside a standing.
MOST_HEIGHT = 10 ** 6


def are_standings(end, wrong, things):
    """Whether a list has only standings of an end, with at most so many wrong bits left, and none of them twice."""
    if not all([is_standing(end, thing) and thing[0] <= wrong for thing in things]):
        return False
    return len({thing: True for thing in things}) == len(things)


def moves_within(end, heights, silent):
    """Whether all moves from the standings of a dict lead to such ones with lesser numbers, where there are numbers."""
    for standing, height in heights.items():
        for moved in moves(end, standing, silent=silent):
            if moved not in heights:
                return False
            if height is not None and heights[moved] >= height:
                return False
    return True


def is_closed(end, wrong, heights, silent):
    """Whether standings, the keys of a dict, have all starts, and all to which their moves lead."""
    if not all([standing in heights for standing in starts(wrong)]):
        return False
    return moves_within(end, heights, silent)


def shows_closed(end, promise, wrong, things, silent):
    """Whether any value is a closed list of standings that break no promise."""
    if promise == "rest" or not isinstance(things, list) or not are_standings(end, wrong, things):
        return False
    over = [standing for standing in things if is_over(standing)]
    if any([breaks(promise, outcome_at(standing), silent) for standing in over]):
        return False
    return is_closed(end, wrong, {standing: None for standing in things}, silent)


def is_pair(thing):
    """Whether any value is a tuple of something and a number that may stand beside a standing."""
    if not isinstance(thing, tuple) or len(thing) != 2:
        return False
    return is_number(thing[1]) and 0 <= thing[1] <= MOST_HEIGHT


def shows_falling(end, promise, wrong, things, silent):
    """Whether any value is a closed list of standings with numbers that become less with each move."""
    if promise != "rest" or not isinstance(things, list) or not all([is_pair(thing) for thing in things]):
        return False
    if not are_standings(end, wrong, [thing[0] for thing in things]):
        return False
    return is_closed(end, wrong, {standing: height for standing, height in things}, silent)


def is_deed_within(deed, wrong, silent):
    """Whether any value is a deed with at most so many wrong bits, and without silences if there are to be none."""
    if not is_deed(deed):
        return False
    if deed[0] == "fall":
        return silent
    if deed[0] == "send":
        return len(deed[1]) <= wrong and (silent or len(deed[2]) == 0)
    return True


def is_endless(line, deed):
    """Whether a deed is a sending that can be done on a line but is endless."""
    try:
        if deed[0] == "send":
            line.do(deed)
    except Endless:
        return True
    except (BadFault, NoHearer, NothingWaits):
        return False
    return False


def breaks_rest(end, stations, deeds):
    """Whether the last one of some deeds is an endless sending."""
    if not deeds:
        return False
    try:
        line = Line.replayed(end, stations, deeds[:-1])
    except BadDeed:
        return False
    return is_endless(line, deeds[-1])


def breaks_line(end, promise, stations, deeds):
    """Whether a promise other than "rest" is broken behind some deeds."""
    try:
        line = Line.replayed(end, stations, deeds)
    except BadDeed:
        return False
    return any([broken[0] == promise for broken in line.broken()])


def shows_broken(end, promise, wrong, stations, deeds, silent):
    """Whether any values are a history that breaks a promise."""
    if not is_number(stations) or not FEWEST_STATIONS <= stations <= MOST_STATIONS or not isinstance(deeds, list):
        return False
    if not all([is_deed_within(deed, wrong, silent) for deed in deeds]):
        return False
    if promise == "rest":
        return breaks_rest(end, stations, deeds)
    return breaks_line(end, promise, stations, deeds)


def shows(end, promise, wrong, thing, *, silent=True):
    """Whether any value is a certificate of a sound end for a promise. Raises NoPromise, then Unsound."""
    check_judged(end, promise)
    if not isinstance(thing, tuple) or len(thing) not in (2, 3):
        return False
    if len(thing) == 3:
        return thing[0] == "broken" and shows_broken(end, promise, wrong, thing[1], thing[2], silent)
    if thing[0] == "closed":
        return shows_closed(end, promise, wrong, thing[1], silent)
    return thing[0] == "falling" and shows_falling(end, promise, wrong, thing[1], silent)

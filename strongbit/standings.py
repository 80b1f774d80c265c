"""Standings: moments of sendings for any number of stations, and the moves between them."""

from strongbit.errors import TooMany
from strongbit.machines import HEARER_WORDS, SENDER_WORDS, is_follower, is_number

# How many standings may come about.
MOST_STANDINGS = 5000

# The most that left and the length of hit are together in a standing of an end.
MOST_WRONG = 4


def starts(wrong, *, hearers=None):
    """The standings in which sendings with so many wrong bits start."""
    found = []
    for bodies in range(wrong + 1):
        left = wrong - bodies
        if hearers is None:
            others = list(range(left + 2))
        else:
            others = [min(hearers - bodies, left + 1)]
        for many in others:
            if many >= 0 and bodies + many >= 1:
                found.append((left, 0, None if many == 0 else 0, many, (1,) * bodies))
    return found


def is_over(standing):
    """Whether nobody in a standing has a row."""
    left, sender, crowd, many, hit = standing
    return not any([is_number(place) for place in (sender, crowd, *hit)])


def hit_order(places):
    """Rows in ascending order, then words likewise."""
    return tuple(sorted([place for place in places if is_number(place)])
                 + sorted([place for place in places if not is_number(place)]))


def with_some_left_out(places):
    """The tuples that are left of these places if any of the rows are left out."""
    found = {(): True}
    for place in places:
        ahead = list(found)
        found = {(*kept, place): True for kept in ahead}
        if is_number(place):
            for kept in ahead:
                found[kept] = True
    return list(found)


def silences(standing):
    """The standings that remain if any of those in a row fall silent, ahead of a bit."""
    left, sender, crowd, many, hit = standing
    senders = [sender, "silent"] if is_number(sender) else [sender]
    crowds = [(crowd, many)]
    if is_number(crowd):
        crowds = [(None, 0)] + [(crowd, fewer) for fewer in range(1, many + 1)]
    return [(left, sender_kept, crowd_kept, many_kept, hit_kept)
            for sender_kept in senders for crowd_kept, many_kept in crowds for hit_kept in with_some_left_out(hit)]


def behind_bit(rows, place, bit):
    """What follows a row behind a heard bit; all other places stay."""
    return rows[place][1 + bit] if is_number(place) else place


def heard_by(rows, places, bit, most):
    """The pairs (wrong bits, places behind a bit of the line) with at most so many wrong bits."""
    found = {(0, ()): True}
    for place in places:
        ahead = list(found)
        found = {}
        for wrong, behind in ahead:
            found[(wrong, (*behind, behind_bit(rows, place, bit)))] = True
            if is_number(place) and wrong < most:
                found[(wrong + 1, (*behind, behind_bit(rows, place, 1 - bit)))] = True
    return list(found)


def line_bit(end, sender, crowd, hit):
    """The least bit that is put."""
    puts = [end.hearer[place][0] for place in (crowd, *hit) if is_number(place)]
    if is_number(sender):
        puts.append(end.sender[sender][0])
    return min([1] + puts)


def crowd_moves(end, left, crowd, many, bit):
    """The tuples (wrong bits, crowd, many, places of those with a wrong bit) behind a bit of the line."""
    if not is_number(crowd):
        return [(0, crowd, many, ())]
    right = behind_bit(end.hearer, crowd, bit)
    other = behind_bit(end.hearer, crowd, 1 - bit)
    return [(wrong, right if wrong < many else None, many - wrong, (other,) * wrong)
            for wrong in range(min(many, left) + 1)]


def written_standing(left, sender, crowd, many, hit):
    """The standing with these parts, many being any number of the crowd."""
    if is_number(crowd):
        return left, sender, crowd, min(many, left + 1), hit_order(hit)
    return left, sender, crowd, 0 if crowd is None else 1, hit_order(hit)


def moves_of_bit(end, standing):
    """The standings behind one more bit at which nobody falls silent."""
    left, sender, crowd, many, hit = standing
    bit = line_bit(end, sender, crowd, hit)
    found = {}
    for sender_wrong, senders in heard_by(end.sender, (sender,), bit, left):
        for hit_wrong, hits in heard_by(end.hearer, hit, bit, left - sender_wrong):
            rest = left - sender_wrong - hit_wrong
            for wrong, crowd_kept, many_kept, joining in crowd_moves(end, rest, crowd, many, bit):
                found[written_standing(rest - wrong, senders[0], crowd_kept, many_kept, hits + joining)] = True
    return list(found)


def moves(end, standing, *, silent=True):
    """The standings to which the moves of a standing lead, none if it is over."""
    if is_over(standing):
        return []
    found = {}
    for remaining in silences(standing) if silent else [standing]:
        for moved in moves_of_bit(end, remaining):
            found[moved] = True
    return list(found)


def standings(end, wrong, *, silent=True, hearers=None):
    """All standings that can come about. Raises TooMany if there are too many."""
    found = {standing: True for standing in starts(wrong, hearers=hearers)}
    ahead = list(found)
    while ahead:
        standing = ahead.pop()
        for moved in moves(end, standing, silent=silent):
            if moved in found:
                continue
            if len(found) == MOST_STANDINGS:
                raise TooMany(MOST_STANDINGS)
            found[moved] = True
            ahead.append(moved)
    return list(found)


def has_hearer_place(end, value):
    """Whether a value is a row or a word of the hearer's machine."""
    return is_follower(value, len(end.hearer), HEARER_WORDS)


def is_crowd(end, left, crowd, many):
    """Whether values are a crowd and how many it is."""
    if not is_number(many):
        return False
    if crowd is None:
        return many == 0
    if not has_hearer_place(end, crowd):
        return False
    return 1 <= many <= (left + 1 if is_number(crowd) else 1)


def is_hit(end, value):
    """Whether a value is a hit part: places of the hearer's machine in their order."""
    if not isinstance(value, tuple) or not all([has_hearer_place(end, place) for place in value]):
        return False
    return value == hit_order(value)


def is_standing(end, thing):
    """Whether any value is a standing of an end."""
    if not isinstance(thing, tuple) or len(thing) != 5:
        return False
    left, sender, crowd, many, hit = thing
    if not is_number(left) or left < 0 or not is_hit(end, hit) or left + len(hit) > MOST_WRONG:
        return False
    is_sender = sender == "silent" or is_follower(sender, len(end.sender), SENDER_WORDS)
    return is_sender and is_crowd(end, left, crowd, many)

"""One bit of a sending for any number of hearers: what may happen in a standing, and what comes of it.

Silences are told as a tuple (sender, hit, kept): a mark for the sender and for each of the hearers in hit, which is 1
if it falls silent and otherwise 0, and how many of the crowd remain, counted as many is.

Wrong bits are told as a tuple (sender, hit, crowd): such marks for those that hear the bit wrongly, and how many of
the crowd do.
"""

from strongbit.machines import is_number


def place_order(place):
    """The key by which places are sorted: rows ahead of words, each ascending."""
    return not is_number(place), place


def marks(places, most):
    """The tuples with a mark for each place, at most so many of them 1, and these at rows. All 0 comes first."""
    found = [()]
    for place in places:
        longer = []
        for ahead in list(found):
            longer.append((*ahead, 0))
            if is_number(place) and sum(ahead) < most:
                longer.append((*ahead, 1))
        found = longer
    return found


def silences(standing, silent):
    """The silences that may happen ahead of a bit, none at all as the first of them; only this one without silences."""
    left, sender, crowd, many, hit = standing
    if not silent:
        return [(0, (0,) * len(hit), many)]
    kept = list(range(many, -1, -1)) if is_number(crowd) else [many]
    return [(sender_mark[0], hit_marks, remaining) for sender_mark in marks((sender,), 1)
            for remaining in kept for hit_marks in marks(hit, len(hit))]


def fallen(standing, falls):
    """What remains of a standing behind these silences."""
    left, sender, crowd, many, hit = standing
    sender_mark, hit_marks, kept = falls
    remaining = tuple([place for place, mark in zip(hit, hit_marks) if mark == 0])
    return left, "silent" if sender_mark else sender, crowd if kept else None, kept, remaining


def mishearings(standing):
    """The wrong bits that may happen at a bit, none at all as the first of them."""
    left, sender, crowd, many, hit = standing
    found = []
    for all_marks in marks((sender, *hit), left):
        most = min(many, left - sum(all_marks)) if is_number(crowd) else 0
        found.extend([(all_marks[0], all_marks[1:], of_crowd) for of_crowd in range(most + 1)])
    return found


def line_bit(end, sender, crowd, hit):
    """The least bit that is put."""
    puts = [end.hearer[place][0] for place in (crowd, *hit) if is_number(place)]
    if is_number(sender):
        puts.append(end.sender[sender][0])
    return min([1] + puts)


def behind_bit(rows, place, bit):
    """What follows a row behind a heard bit; all other places stay."""
    return rows[place][1 + bit] if is_number(place) else place


def written_standing(left, sender, crowd, many, hit):
    """The standing with these parts, many being any number of the crowd, and hit in any order."""
    ordered = tuple(sorted(hit, key=place_order))
    if many == 0:
        return left, sender, None, 0, ordered
    return left, sender, crowd, min(many, left + 1) if is_number(crowd) else 1, ordered


def behind_wrong(end, standing, wrongs):
    """The standing behind one more bit at which these wrong bits happen and nobody falls silent."""
    left, sender, crowd, many, hit = standing
    sender_mark, hit_marks, of_crowd = wrongs
    bit = line_bit(end, sender, crowd, hit)
    hits = [behind_bit(end.hearer, place, bit ^ mark) for place, mark in zip(hit, hit_marks)]
    hits = hits + [behind_bit(end.hearer, crowd, 1 - bit)] * of_crowd
    return written_standing(left - sender_mark - sum(hit_marks) - of_crowd,
                            behind_bit(end.sender, sender, bit ^ sender_mark),
                            behind_bit(end.hearer, crowd, bit), many - of_crowd, hits)


def behind_quiet(end, standing):
    """The standing behind one more bit without a fault."""
    left, sender, crowd, many, hit = standing
    return behind_wrong(end, standing, (0, (0,) * len(hit), 0))


def faults_between(end, standing, moved, silent):
    """The silences, and the wrong bits behind them, by which a move leads from a standing to another one."""
    for falls in silences(standing, silent):
        remaining = fallen(standing, falls)
        for wrongs in mishearings(remaining):
            if behind_wrong(end, remaining, wrongs) == moved:
                return falls, wrongs
    return None

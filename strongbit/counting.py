"""How many choices of wrong bits there are for each count of stations that have a frame."""

from strongbit.errors import Unbounded
from strongbit.reaches import Reach
from strongbit.steps import behind_wrong, mishearings


def choices_of(many, few):
    """In how many ways so few can be chosen of so many."""
    found = 1
    for index in range(few):
        found = found * (many - index) // (index + 1)
    return found


def crowd_number(standing, hearers):
    """How many the crowd is, with so many hearers of which none is silent."""
    return hearers - len(standing[4])


def ways_to(reach, heights):
    """The number of choices of wrong bits that lead to each standing."""
    found = {standing: 0 for standing in reach.moved}
    for standing in reach.begins:
        found[standing] = choices_of(reach.hearers, len(standing[4]))
    # Each move leads to a lesser height, so all moves to a standing come ahead of those from it.
    for standing in sorted(list(heights), key=lambda place: -heights[place]):
        if not reach.moved[standing]:
            continue
        many = crowd_number(standing, reach.hearers)
        for wrongs in mishearings(standing):
            found[behind_wrong(reach.shared_end, standing, wrongs)] += found[standing] * choices_of(many, wrongs[2])
    return found


def count_at(standing, hearers):
    """The sender's word in a standing that is over, and how many hearers have the word "taken"."""
    left, sender, crowd, many, hit = standing
    of_crowd = crowd_number(standing, hearers) if crowd == "taken" else 0
    return sender, hit.count("taken") + of_crowd


def ways(end, hearers, wrong):
    """Each count that has ways with their number. Raises TooMany, then Unbounded."""
    reach = Reach(end, wrong, False, hearers)
    heights = reach.heights()
    if heights is None:
        raise Unbounded()
    found = ways_to(reach, heights)
    counts = {}
    for standing in reach.over():
        if standing[0] == 0:
            count = count_at(standing, hearers)
            counts[count] = counts.get(count, 0) + found[standing]
    return counts

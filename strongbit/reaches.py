"""All that can come about in sendings of an end within some wrong bits, and ways to it."""

from strongbit.plays import Play
from strongbit.standings import is_over, reached, starts
from strongbit.steps import behind_quiet, faults_between


class Reach:
    """The standings that can come about, those of fewer bits first, and where their moves lead. Raises TooMany."""

    def __init__(self, end, wrong, silent, hearers):
        self.shared_end = end
        self.silent = silent
        self.hearers = hearers
        self.begins = starts(wrong, hearers=hearers)
        self.moved = reached(end, wrong, silent, hearers)

    def over(self):
        """The standings that are over."""
        return [standing for standing in self.moved if is_over(standing)]

    def ringing(self):
        """The standings behind which a sending never ends if it has no further faults.

        Sendings can be endless exactly if there are any: in a ring no wrong bit happens, and a silence in a ring
        would leave fewer stations than there were.
        """
        rings = {}
        for standing in self.moved:
            course = []
            ahead = standing
            while ahead not in rings and not is_over(ahead):
                rings[ahead] = True
                course.append(ahead)
                ahead = behind_quiet(self.shared_end, ahead)
            # Where the course came to one of its own standings again, this one is in rings as True.
            is_ring = rings.get(ahead, False)
            for passed in course:
                rings[passed] = is_ring
        return [standing for standing in self.moved if rings.get(standing, False)]

    def heights(self):
        """The most bits that can follow each standing. None if sendings can be endless."""
        ahead = {standing: len(moved) for standing, moved in self.moved.items()}
        earlier = {standing: [] for standing in self.moved}
        for standing, moved in self.moved.items():
            for behind in moved:
                earlier[behind].append(standing)
        found = {}
        known = self.over()
        while known:
            standing = known.pop()
            found[standing] = max([-1] + [found[behind] for behind in self.moved[standing]]) + 1
            for before in earlier[standing]:
                ahead[before] -= 1
                if ahead[before] == 0:
                    known.append(before)
        return found if len(found) == len(self.moved) else None

    def path(self, target):
        """Standings from a start to a standing, each by a move from the one ahead of it, as few as can be."""
        earlier = {}
        for standing, moved in self.moved.items():
            for behind in moved:
                earlier.setdefault(behind, standing)
        backwards = [target]
        while backwards[-1] not in self.begins:
            backwards.append(earlier[backwards[-1]])
        return backwards[::-1]

    def sending_to(self, target):
        """A sending that comes to a standing: the tuple (hearers, wrong, silent)."""
        path = self.path(target)
        left, sender, crowd, many, hit = path[0]
        hearers = len(hit) + many if self.hearers is None else self.hearers
        play = Play(self.shared_end, hearers, len(hit))
        for index in range(len(path) - 1):
            falls, wrongs = faults_between(self.shared_end, path[index], path[index + 1], self.silent)
            play.pass_bit_with(falls, wrongs, path[index][3])
        return hearers, play.wrong_faults(), play.silent_faults()

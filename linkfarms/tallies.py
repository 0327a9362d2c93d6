"""The numbers of paths to the states of a farm, and to the pairs of states of two farms [8]."""

from linkfarms.merging import Merged

# Numbers are kept for each so many names.
STRIDE = 16
# Up to so many states it takes longer to merge them than to count with all of them.
FEW_STATES = 64


class Tally:
    """How many paths with so many names lead to each spot; a spot is a number or a pair of numbers.

    followers has for a spot the list of the spots to which its names lead, and lasting the list of those among them
    that lead further, both once they are asked for. marks has the numbers of paths for each STRIDE names.
    """

    def __init__(self, start):
        self.start = start
        self.followers = {}
        self.lasting = {}
        self.marks = [{start: 1}]

    def find_after(self, spot):
        """The list of the spots to which the names lead that go on from a spot; none, unless a class below knows."""
        return []

    def all_after(self, spot):
        """The same, found once."""
        if spot not in self.followers:
            self.followers[spot] = self.find_after(spot)
        return self.followers[spot]

    def lasting_after(self, spot):
        """The list of the spots that come next and lead further."""
        return [to for to in self.all_after(spot) if len(self.all_after(to)) > 0]

    def lasting_counts(self, counts, steps):
        """The numbers of paths to spots that lead further, so many names later."""
        for step in range(steps):
            before = counts
            counts = self.next_counts(before)
            if counts == before:
                # So it stays for all numbers of names.
                return counts
        return counts

    def next_counts(self, counts):
        """The same, one name later."""
        lasting = self.lasting
        found = {}
        for spot in counts:
            if spot not in lasting:
                lasting[spot] = self.lasting_after(spot)
            many = counts[spot]
            for to in lasting[spot]:
                if to in found:
                    found[to] = found[to] + many
                else:
                    found[to] = many
        return found

    def counts(self, length):
        """A dict from the spots to which paths with so many names lead, to the numbers of these paths."""
        if length == 0:
            return {self.start: 1}
        mark = (length - 1) // STRIDE
        while len(self.marks) <= mark:
            self.marks.append(self.lasting_counts(self.marks[-1], STRIDE))
        counts = self.lasting_counts(self.marks[mark], length - 1 - mark * STRIDE)
        found = {}
        for spot in counts:
            for to in self.all_after(spot):
                found[to] = found.get(to, 0) + counts[spot]
        return found


class StateTally(Tally):
    """How many paths lead to the states of a chart, or to their classes; flags has what is asked of each."""

    def __init__(self, flags, moves):
        if len(moves) > FEW_STATES:
            merged = Merged(flags, moves)
            Tally.__init__(self, merged.classes[0])
            self.flags = {number: merged.class_view(number) for number in merged.samples}
            self.rows = {number: merged.class_row(number) for number in merged.samples}
        else:
            Tally.__init__(self, 0)
            self.flags = flags
            self.rows = moves

    def find_after(self, spot):
        """The list of the states to which the names lead that go on from a state."""
        return list(self.rows[spot].values())

    def count_flagged(self, length, flag):
        """How many paths with so many names lead to states with a flag."""
        if length < 0:
            return 0
        counts = self.counts(length)
        return sum([counts[spot] for spot in counts if self.flags[spot] == flag])

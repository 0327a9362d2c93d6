"""How the joints of an old and a new layout meet [12], and what a link can disturb [13].

Several joints, pairs or links are written as one integer with a bit for each, as states are. What matters of a
stretch is only which old and which new joints are in its pairs; so a pair of a joint and something else counts for
the joint and all joints behind it, since behind such a pair no two joints meet.
"""

from linkfarms.tables import indexes


class Side:
    """The joints of one layout. bits has the bit of each joint, reach the bits of a joint and all joints behind it."""

    def __init__(self, layout):
        self.rows = layout.rows
        self.peak = layout.peak
        self.joints = list(layout.rows)
        self.bits = {self.joints[at]: 1 << at for at in range(len(self.joints))}
        self.reach = {}

    def behind(self, joint):
        """The bits of a joint and of all joints that it leads to."""
        if joint not in self.reach:
            found = {joint: True}
            waiting = [joint]
            while len(waiting) > 0:
                row = self.rows[waiting.pop()]
                for name in row:
                    if isinstance(row[name], int) and row[name] not in found:
                        found[row[name]] = True
                        waiting.append(row[name])
            self.reach[joint] = sum([self.bits[other] for other in found])
        return self.reach[joint]

    def lone(self, target):
        """The bits of the joints in a stretch that goes on from a target where the other layout has no joint."""
        return self.behind(target) if isinstance(target, int) else 0


class Pairing:
    """The pairs of two joints that paths reach, in the order of the least paths; the pair of the tops is the first.

    nexts has for each pair the bits of the pairs to which a name leads; old_bits and new_bits have the bits of its
    joints, and of those that are behind it with no joint beside them.
    """

    def __init__(self, old, new):
        self.old = Side(old)
        self.new = Side(new)
        self.pairs = [(old.peak, new.peak)]
        self.numbers = {self.pairs[0]: 0}
        self.origins = [None]
        self.nexts = []
        self.old_bits = []
        self.new_bits = []
        while len(self.nexts) < len(self.pairs):
            self.follow(len(self.nexts))

    def follow(self, at):
        """Find what all names reach from a pair."""
        old, new = self.pairs[at]
        old_row = self.old.rows[old]
        new_row = self.new.rows[new]
        nexts = 0
        old_bits = self.old.bits[old]
        new_bits = self.new.bits[new]
        for name in sorted({**old_row, **new_row}):
            pair = (old_row.get(name), new_row.get(name))
            if isinstance(pair[0], int) and isinstance(pair[1], int):
                self.meet(pair, (at, name))
                nexts = nexts | 1 << self.numbers[pair]
            else:
                old_bits = old_bits | self.old.lone(pair[0])
                new_bits = new_bits | self.new.lone(pair[1])
        self.nexts.append(nexts)
        self.old_bits.append(old_bits)
        self.new_bits.append(new_bits)

    def meet(self, pair, origin):
        """A path reaches a pair of two joints."""
        if pair not in self.numbers:
            self.numbers[pair] = len(self.pairs)
            self.pairs.append(pair)
            self.origins.append(origin)

    def stretch(self, pair, common, old_asked, new_asked):
        """The bits of the old and of the new joints in the pairs of a stretch that begins with this pair.

        common has the bits of the pairs of the keep, at which the stretch ends. When all joints that are asked for
        are found, no others are looked for.
        """
        old, new = pair
        if not isinstance(old, int) or not isinstance(new, int):
            return (self.old.lone(old), self.new.lone(new))
        found = waiting = (1 << self.numbers[pair]) & ~common
        old_bits = new_bits = 0
        while waiting != 0 and (old_asked & ~old_bits | new_asked & ~new_bits) != 0:
            fresh = 0
            for at in indexes(waiting):
                old_bits = old_bits | self.old_bits[at]
                new_bits = new_bits | self.new_bits[at]
                fresh = fresh | self.nexts[at]
            waiting = fresh & ~found & ~common
            found = found | waiting
        return (old_bits, new_bits)
